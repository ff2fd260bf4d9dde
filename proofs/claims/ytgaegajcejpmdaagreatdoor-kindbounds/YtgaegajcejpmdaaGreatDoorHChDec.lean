/- Contracts of char.Decode and of the reference's Decode: the letter at a row's front. -/
import Derived.Test.YtgaegajcejpmdaaGreatDoorHJ34
namespace Go.Proofs.YtgaegajcejpmdaaGreatDoor.Ch
open Go.RowKit
set_option linter.unusedVariables false

theorem ret_pair {k m : IntKind} {a b : Int} {p : Int × Int} (h : p = (a, b)) : Ending.returned (.tuple #[.int k a, .int m b]) = .returned (.tuple #[.int k p.1, .int m p.2]) := by rw [h]
theorem tl_yes {c : Int} (h : (c / 64 != 2) = false) : isTl c = true := by
  unfold isTl; simp at *; omega
theorem tl_no {c : Int} (h : (c / 64 != 2) = true) : isTl c = false := by
  unfold isTl; simp at *; omega
theorem fin_bad {r n : Int} (h : (wid r != n) = true) : fin r n = (-1, 0) := by
  unfold fin; simp at h; rw [if_neg h]
theorem fin_ok {r n : Int} (h : (wid r != n) = false) : fin r n = (r, n) := by
  unfold fin; simp at h; rw [if_pos h]

set_option maxHeartbeats 400000 in
theorem dec_empty (a : Option Addr) (cap : Nat) (w : World) :
    Calls Tryz.prog 144 #[.slice a 0 cap] w fun e w' => e = .returned (.tuple #[.int .i32 (-1), .int .i64 0]) ∧ w' = w := by
  go_enter Tryz.func144, Tryz.ntmps144
  go_wp2
  go_ret2
  exact ⟨rfl, rfl⟩

set_option maxHeartbeats 400000 in
theorem dec_none (b o len cap : Nat) (c : Int) (w : World) (hl : 1 ≤ len) (hc : len ≤ cap) (hm : cap ≤ maxLen) (h0 : w.cell? ⟨b, o, none⟩ = some (.int .u8 c)) (hc0 : 0 ≤ c) (hc1 : c < 256) (hn : ann c = 0 ∨ (len : Int) < ann c) :
    Calls Tryz.prog 144 #[.slice (some ⟨b, o, none⟩) len cap] w fun e w' => e = .returned (.tuple #[.int .i32 (-1), .int .i64 0]) ∧ w' = w := by
  unfold maxLen at hm
  have hne : ((len : Int) == 0) = false := by simp; omega
  generalize ha : ann c = n at hn
  rcases hn with rfl | hn
  · go_enter Tryz.func144, Tryz.ntmps144
    go_wp2_with (go_at_call 173; refine (announced_any _ _ (by omega) (by omega)).mono ?_; rintro e w' ⟨rfl, rfl⟩)
    go_ret2
    exact ⟨rfl, rfl⟩
  · have hz : (n == 0) = false := by simp; omega
    go_enter Tryz.func144, Tryz.ntmps144
    go_wp2_with (go_at_call 173; refine (announced_any _ _ (by omega) (by omega)).mono ?_; rintro e w' ⟨rfl, rfl⟩)
    go_ret2
    exact ⟨rfl, rfl⟩

set_option maxHeartbeats 400000 in
theorem dec_one (b o len cap : Nat) (c : Int) (w : World) (hl : 1 ≤ len) (hc : len ≤ cap) (hm : cap ≤ maxLen) (h0 : w.cell? ⟨b, o, none⟩ = some (.int .u8 c)) (hc0 : 0 ≤ c) (hc1 : c < 128) :
    Calls Tryz.prog 144 #[.slice (some ⟨b, o, none⟩) len cap] w fun e w' => e = .returned (.tuple #[.int .i32 c, .int .i64 1]) ∧ w' = w := by
  unfold maxLen at hm
  have ha : ann c = 1 := by unfold ann; simp; omega
  have hw : wid c = 1 := by unfold wid; repeat' split; all_goals omega
  have hne : ((len : Int) == 0) = false := by simp; omega
  have hn2 : ¬ ((len : Int) < 1) := by omega
  go_enter Tryz.func144, Tryz.ntmps144
  go_wp2_with (go_at_call 173; refine (announced_any _ _ (by omega) (by omega)).mono ?_; rintro e w' ⟨rfl, rfl⟩)
  all_goals
    refine wp_loop_rounds 1 ?_
    rw [rounds_succ]
    go_wp2_with (go_at_call 174; refine (width_any _ _).mono ?_; rintro e w' ⟨rfl, rfl⟩)
    go_ret2
    exact ⟨rfl, rfl⟩

set_option maxHeartbeats 400000 in
theorem dec_two (b o len cap : Nat) (c c1 : Int) (w : World) (hl : 2 ≤ len) (hc : len ≤ cap) (hm : cap ≤ maxLen) (h0 : w.cell? ⟨b, o, none⟩ = some (.int .u8 c)) (hc0 : 192 ≤ c) (hc1 : c < 224)
   (h1 : w.cell? ⟨b, o + 1, none⟩ = some (.int .u8 c1)) (hd0 : 0 ≤ c1) (hd1 : c1 < 256) :
    Calls Tryz.prog 144 #[.slice (some ⟨b, o, none⟩) len cap] w fun e w' => e = .returned (.tuple #[.int .i32 (dec2 c c1).1, .int .i64 (dec2 c c1).2]) ∧ w' = w := by
  unfold maxLen at hm
  have ha : ann c = 2 := by unfold ann; repeat' split; all_goals omega
  have hne : ((len : Int) == 0) = false := by simp; omega
  have hn2 : ¬ ((len : Int) < 2) := by omega
  have hcp : ¬ cap = 1 := by omega
  have e1 := i32_and31 c (by omega) (by omega)
  have e2 := u8_and63 c1 hd0 hd1
  go_enter Tryz.func144, Tryz.ntmps144
  go_wp2_with (go_at_call 173; refine (announced_any _ _ (by omega) (by omega)).mono ?_; rintro e w' ⟨rfl, rfl⟩)
  refine wp_loop_rounds 2 ?_
  rw [rounds_succ]
  go_wp2_with (go_at_call 174; refine (width_any _ _).mono ?_; rintro e w' ⟨rfl, rfl⟩)
  · go_ret2
    exact ⟨ret_pair (by unfold dec2; rw [tl_no ‹_›]; rfl), rfl⟩
  rw [rounds_succ]
  go_wp2_with (go_at_call 174; refine (width_any _ _).mono ?_; rintro e w' ⟨rfl, rfl⟩)
  · go_ret2
    exact ⟨ret_pair (by unfold dec2; rw [if_pos (tl_yes ‹_›), fin_bad ‹_›]), rfl⟩
  · go_ret2
    exact ⟨ret_pair (by unfold dec2; rw [if_pos (tl_yes ‹_›), fin_ok ‹_›]), rfl⟩

set_option maxHeartbeats 400000 in
theorem dec_three (b o len cap : Nat) (c c1 c2 : Int) (w : World) (hl : 3 ≤ len) (hc : len ≤ cap) (hm : cap ≤ maxLen) (h0 : w.cell? ⟨b, o, none⟩ = some (.int .u8 c)) (hc0 : 224 ≤ c) (hc1 : c < 240)
   (h1 : w.cell? ⟨b, o + 1, none⟩ = some (.int .u8 c1)) (hd0 : 0 ≤ c1) (hd1 : c1 < 256) (h2 : w.cell? ⟨b, o + 2, none⟩ = some (.int .u8 c2)) (hg0 : 0 ≤ c2) (hg1 : c2 < 256) :
    Calls Tryz.prog 144 #[.slice (some ⟨b, o, none⟩) len cap] w fun e w' => e = .returned (.tuple #[.int .i32 (dec3 c c1 c2).1, .int .i64 (dec3 c c1 c2).2]) ∧ w' = w := by
  unfold maxLen at hm
  have ha : ann c = 3 := by unfold ann; repeat' split; all_goals omega
  have hne : ((len : Int) == 0) = false := by simp; omega
  have hn2 : ¬ ((len : Int) < 3) := by omega
  have hcp : ¬ cap = 1 := by omega
  have e1 := i32_and15 c (by omega) (by omega)
  have e2 := u8_and63 c1 hd0 hd1
  have e3 := u8_and63 c2 hg0 hg1
  go_enter Tryz.func144, Tryz.ntmps144
  go_wp2_with (go_at_call 173; refine (announced_any _ _ (by omega) (by omega)).mono ?_; rintro e w' ⟨rfl, rfl⟩)
  refine wp_loop_rounds 3 ?_
  rw [rounds_succ]
  go_wp2_with (go_at_call 174; refine (width_any _ _).mono ?_; rintro e w' ⟨rfl, rfl⟩)
  · go_ret2
    exact ⟨ret_pair (by unfold dec3; rw [tl_no ‹_›]; simp), rfl⟩
  rw [rounds_succ]
  go_wp2_with (go_at_call 174; refine (width_any _ _).mono ?_; rintro e w' ⟨rfl, rfl⟩)
  · go_ret2
    exact ⟨ret_pair (by unfold dec3; rw [tl_no (c := c2) ‹_›]; simp), rfl⟩
  rw [rounds_succ]
  go_wp2_with (go_at_call 174; refine (width_any _ _).mono ?_; rintro e w' ⟨rfl, rfl⟩)
  · go_ret2
    exact ⟨ret_pair (by unfold dec3; rw [if_pos ⟨tl_yes (c := c1) ‹_›, tl_yes (c := c2) ‹_›⟩, fin_bad ‹_›]), rfl⟩
  · go_ret2
    exact ⟨ret_pair (by unfold dec3; rw [if_pos ⟨tl_yes (c := c1) ‹_›, tl_yes (c := c2) ‹_›⟩, fin_ok ‹_›]), rfl⟩

set_option maxHeartbeats 800000 in
theorem dec_four (b o len cap : Nat) (c c1 c2 c3 : Int) (w : World) (hl : 4 ≤ len) (hc : len ≤ cap) (hm : cap ≤ maxLen) (h0 : w.cell? ⟨b, o, none⟩ = some (.int .u8 c)) (hc0 : 240 ≤ c) (hc1 : c < 248)
   (h1 : w.cell? ⟨b, o + 1, none⟩ = some (.int .u8 c1)) (hd0 : 0 ≤ c1) (hd1 : c1 < 256) (h2 : w.cell? ⟨b, o + 2, none⟩ = some (.int .u8 c2)) (hg0 : 0 ≤ c2) (hg1 : c2 < 256)
   (h3 : w.cell? ⟨b, o + 3, none⟩ = some (.int .u8 c3)) (hk0 : 0 ≤ c3) (hk1 : c3 < 256) :
    Calls Tryz.prog 144 #[.slice (some ⟨b, o, none⟩) len cap] w fun e w' => e = .returned (.tuple #[.int .i32 (dec4 c c1 c2 c3).1, .int .i64 (dec4 c c1 c2 c3).2]) ∧ w' = w := by
  unfold maxLen at hm
  have ha : ann c = 4 := by unfold ann; repeat' split; all_goals omega
  have hne : ((len : Int) == 0) = false := by simp; omega
  have hn2 : ¬ ((len : Int) < 4) := by omega
  have hcp : ¬ cap = 1 := by omega
  have e1 := i32_and7 c (by omega) (by omega)
  have e2 := u8_and63 c1 hd0 hd1
  have e3 := u8_and63 c2 hg0 hg1
  have e4 := u8_and63 c3 hk0 hk1
  go_enter Tryz.func144, Tryz.ntmps144
  go_wp2_with (go_at_call 173; refine (announced_any _ _ (by omega) (by omega)).mono ?_; rintro e w' ⟨rfl, rfl⟩)
  refine wp_loop_rounds 4 ?_
  rw [rounds_succ]
  go_wp2_with (go_at_call 174; refine (width_any _ _).mono ?_; rintro e w' ⟨rfl, rfl⟩)
  · go_ret2
    exact ⟨ret_pair (by unfold dec4; rw [tl_no (c := c1) ‹_›]; simp), rfl⟩
  rw [rounds_succ]
  go_wp2_with (go_at_call 174; refine (width_any _ _).mono ?_; rintro e w' ⟨rfl, rfl⟩)
  · go_ret2
    exact ⟨ret_pair (by unfold dec4; rw [tl_no (c := c2) ‹_›]; simp), rfl⟩
  rw [rounds_succ]
  go_wp2_with (go_at_call 174; refine (width_any _ _).mono ?_; rintro e w' ⟨rfl, rfl⟩)
  · go_ret2
    exact ⟨ret_pair (by unfold dec4; rw [tl_no (c := c3) ‹_›]; simp), rfl⟩
  rw [rounds_succ]
  go_wp2_with (go_at_call 174; refine (width_any _ _).mono ?_; rintro e w' ⟨rfl, rfl⟩)
  · go_ret2
    exact ⟨ret_pair (by unfold dec4; rw [if_pos ⟨tl_yes (c := c1) ‹_›, tl_yes (c := c2) ‹_›, tl_yes (c := c3) ‹_›⟩, fin_bad ‹_›]), rfl⟩
  · go_ret2
    exact ⟨ret_pair (by unfold dec4; rw [if_pos ⟨tl_yes (c := c1) ‹_›, tl_yes (c := c2) ‹_›, tl_yes (c := c3) ‹_›⟩, fin_ok ‹_›]), rfl⟩

/-- A slice of bytes as it lies in memory: its bytes are the list. -/
def Bts (w : World) (a : Option Addr) (l : List Int) : Prop :=
  (∀ i, 0 ≤ l.getD i 0 ∧ l.getD i 0 < 256) ∧ (l = [] ∨ ∃ b o, a = some ⟨b, o, none⟩ ∧ ∀ i, i < l.length → w.cell? ⟨b, o + i, none⟩ = some (.int .u8 (l.getD i 0)))

theorem decode_any (a : Option Addr) (l : List Int) (cap : Nat) (w : World) (hc : l.length ≤ cap) (hm : cap ≤ maxLen) (hb : Bts w a l) :
    Calls Tryz.prog 144 #[.slice a l.length cap] w fun e w' => e = .returned (.tuple #[.int .i32 (dec l).1, .int .i64 (dec l).2]) ∧ w' = w := by
  obtain ⟨hby, rfl | ⟨b, o, rfl, hcell⟩⟩ := hb
  · exact dec_empty a cap w
  by_cases hl : l.length = 0
  · have : l = [] := List.eq_nil_of_length_eq_zero hl
    subst this
    exact dec_empty _ cap w
  have h0 := hcell 0 (by omega)
  have b0 := hby 0
  have b1 := hby 1
  have b2 := hby 2
  have b3 := hby 3
  unfold dec
  rw [if_neg hl]
  by_cases c0 : l.getD 0 0 < 128
  · rw [if_pos c0]
    exact dec_one b o l.length cap _ w (by omega) hc hm h0 b0.1 c0
  rw [if_neg c0]
  by_cases c1 : l.getD 0 0 < 192
  · rw [if_pos c1]
    exact dec_none b o l.length cap _ w (by omega) hc hm h0 b0.1 b0.2 (.inl (by unfold ann; rw [if_neg c0, if_pos c1]))
  rw [if_neg c1]
  by_cases c2 : l.getD 0 0 < 224
  · rw [if_pos c2]
    by_cases g : 2 ≤ l.length
    · rw [if_pos g]
      exact dec_two b o l.length cap _ _ w g hc hm h0 (by omega) c2 (hcell 1 (by omega)) b1.1 b1.2
    · rw [if_neg g]
      exact dec_none b o l.length cap _ w (by omega) hc hm h0 b0.1 b0.2 (.inr (by unfold ann; rw [if_neg c0, if_neg c1, if_pos c2]; omega))
  rw [if_neg c2]
  by_cases c3 : l.getD 0 0 < 240
  · rw [if_pos c3]
    by_cases g : 3 ≤ l.length
    · rw [if_pos g]
      exact dec_three b o l.length cap _ _ _ w g hc hm h0 (by omega) c3 (hcell 1 (by omega)) b1.1 b1.2 (hcell 2 (by omega)) b2.1 b2.2
    · rw [if_neg g]
      exact dec_none b o l.length cap _ w (by omega) hc hm h0 b0.1 b0.2 (.inr (by unfold ann; rw [if_neg c0, if_neg c1, if_neg c2, if_pos c3]; omega))
  rw [if_neg c3]
  by_cases c4 : l.getD 0 0 < 248
  · rw [if_pos c4]
    by_cases g : 4 ≤ l.length
    · rw [if_pos g]
      exact dec_four b o l.length cap _ _ _ _ w g hc hm h0 (by omega) c4 (hcell 1 (by omega)) b1.1 b1.2 (hcell 2 (by omega)) b2.1 b2.2 (hcell 3 (by omega)) b3.1 b3.2
    · rw [if_neg g]
      exact dec_none b o l.length cap _ w (by omega) hc hm h0 b0.1 b0.2 (.inr (by unfold ann; rw [if_neg c0, if_neg c1, if_neg c2, if_neg c3, if_pos c4]; omega))
  rw [if_neg c4]
  exact dec_none b o l.length cap _ w (by omega) hc hm h0 b0.1 b0.2 (.inl (by unfold ann; rw [if_neg c0, if_neg c1, if_neg c2, if_neg c3, if_neg c4]))
end Go.Proofs.YtgaegajcejpmdaaGreatDoor.Ch
