/- Contracts of the small functions of package char and of the reference: announced, width, later, the classes. -/
import Derived.Test.YtjcgnbmpnaapdaaDoorRows
import Derived.Test.YtjcgnbmpnaapdaaDoorM14
import Derived.WalkKit
import Derived.WalkSpells
import Derived.WalkLawsBesides
import Derived.Laws.IdiomStrings
import Derived.Deep.QuietTactic
import Derived.BigQuiet
import Derived.OwnWalk
namespace Go.Proofs.YtjcgnbmpnaapdaaDoor
open Go.RowKit

theorem ret_int {k : IntKind} {a b : Int} (h : a = b) : Ending.returned (.int k a) = .returned (.int k b) := by rw [h]
theorem ret_bool {a b : Bool} (h : a = b) : Ending.returned (.bool a) = .returned (.bool b) := by rw [h]

set_option maxHeartbeats 400000 in
theorem announced_any (c : Int) (w : World) (h0 : 0 ≤ c) (h1 : c < 256) :
    Calls Tryd.prog 92 #[.int .u8 c] w fun e w' => e = .returned (.int .i64 (ann c)) ∧ w' = w := by
  go_enter Tryd.func92, Tryd.ntmps92
  go_wp2
  all_goals
    go_ret
    refine ⟨ret_int ?_, rfl⟩
    simp only [beq_iff_eq, beq_eq_false_iff_ne] at *
    unfold ann
    repeat' split
    all_goals omega

set_option maxHeartbeats 400000 in
theorem later_any (r : Int) (w : World) (h0 : 0 ≤ r) (h1 : r < 2147483648) :
    Calls Tryd.prog 84 #[.int .i32 r] w fun e w' => e = .returned (.int .u8 (128 + r % 64)) ∧ w' = w := by
  go_enter Tryd.func84, Tryd.ntmps84
  go_wp2
  go_ret
  refine ⟨ret_int ?_, rfl⟩
  rw [i32_and63 r h0 h1, i32_join 6 128 (r % 64) (by omega) (by omega) (by omega) (by omega) (by omega) (by omega)]
  omega

set_option maxHeartbeats 400000 in
theorem width_any (r : Int) (w : World) :
    Calls Tryd.prog 83 #[.int .i32 r] w fun e w' => e = .returned (.int .i64 (wid r)) ∧ w' = w := by
  go_enter Tryd.func83, Tryd.ntmps83
  go_wp2
  all_goals
    go_ret
    refine ⟨ret_int ?_, rfl⟩
    unfold wid
    repeat' split
    all_goals omega

set_option maxHeartbeats 400000 in
theorem char_any (r : Int) (w : World) :
    Calls Tryd.prog 79 #[.int .i32 r] w fun e w' => e = .returned (.bool (isChar r)) ∧ w' = w := by
  go_enter Tryd.func79, Tryd.ntmps79
  go_wp2
  all_goals
    go_ret
    refine ⟨ret_bool ?_, rfl⟩
    unfold isChar
    rw [Bool.eq_iff_iff]
    simp at *
    omega

set_option maxHeartbeats 400000 in
theorem rchar_any (r : Int) (w : World) :
    Calls Tryd.prog 18 #[.int .i64 r] w fun e w' => e = .returned (.bool (isChar r)) ∧ w' = w := by
  go_enter Tryd.func18, Tryd.ntmps18
  go_wp2
  all_goals
    go_ret
    refine ⟨ret_bool ?_, rfl⟩
    unfold isChar
    rw [Bool.eq_iff_iff]
    simp at *
    omega

set_option maxHeartbeats 400000 in
theorem start_any (r : Int) (w : World) :
    Calls Tryd.prog 74 #[.int .i32 r] w fun e w' => e = .returned (.bool (isStart r)) ∧ w' = w := by
  go_enter Tryd.func74, Tryd.ntmps74
  go_wp2_with (go_at_call 79; refine (char_any _ _).mono ?_; rintro e w' ⟨rfl, rfl⟩)
  all_goals
    go_ret
    refine ⟨ret_bool ?_, rfl⟩
    unfold isStart
    rw [Bool.eq_iff_iff]
    generalize isChar r = z at *
    cases z <;> simp at * <;> omega

set_option maxHeartbeats 400000 in
theorem part_any (r : Int) (w : World) :
    Calls Tryd.prog 86 #[.int .i32 r] w fun e w' => e = .returned (.bool (isPart r)) ∧ w' = w := by
  go_enter Tryd.func86, Tryd.ntmps86
  go_wp2_with (go_at_call 74; refine (start_any _ _).mono ?_; rintro e w' ⟨rfl, rfl⟩)
  all_goals
    go_ret
    refine ⟨ret_bool ?_, rfl⟩
    unfold isPart
    rw [Bool.eq_iff_iff]
    generalize isStart r = z at *
    cases z <;> simp at * <;> omega

set_option maxHeartbeats 400000 in
theorem white_any (r : Int) (w : World) :
    Calls Tryd.prog 50 #[.int .i32 r] w fun e w' => e = .returned (.bool (isWhite r)) ∧ w' = w := by
  go_enter Tryd.func50, Tryd.ntmps50
  go_wp2
  all_goals
    go_ret
    refine ⟨ret_bool ?_, rfl⟩
    unfold isWhite
    rw [Bool.eq_iff_iff]
    simp at *
    omega

end Go.Proofs.YtjcgnbmpnaapdaaDoor
namespace Go.Proofs.YtjcgnbmpnaapdaaDoor
open Go.RowKit
set_option linter.unusedVariables false

theorem ret_pair {k m : IntKind} {a b : Int} {p : Int × Int} (h : p = (a, b)) : Ending.returned (.tuple #[.int k a, .int m b]) = .returned (.tuple #[.int k p.1, .int m p.2]) := by rw [h]
theorem tl_yes {c : Int} (h : (c / 64 != 2) = false) : isTl c = true := by
  unfold isTl; simp at *; omega
theorem tl_no {c : Int} (h : (c / 64 != 2) = true) : isTl c = false := by
  unfold isTl; simp at *; omega
theorem fin_bad {r n : Int} (h : (wid r != n) = true) : fin r n = (-1, 0) := by
  unfold fin; simp at h; rw [if_neg h]
theorem fin_ok {r n : Int} (h : (wid r != n) = false) : fin r n = (r, n) := by
  unfold fin; simp at h; rw [if_pos h]

set_option maxHeartbeats 400000 in
theorem dec_empty (a : Option Addr) (cap : Nat) (w : World) :
    Calls Tryd.prog 78 #[.slice a 0 cap] w fun e w' => e = .returned (.tuple #[.int .i32 (-1), .int .i64 0]) ∧ w' = w := by
  go_enter Tryd.func78, Tryd.ntmps78
  go_wp2
  go_ret2
  exact ⟨rfl, rfl⟩

set_option maxHeartbeats 400000 in
theorem dec_none (b o len cap : Nat) (c : Int) (w : World) (hl : 1 ≤ len) (hc : len ≤ cap) (hm : cap ≤ maxLen) (h0 : w.cell? ⟨b, o, none⟩ = some (.int .u8 c)) (hc0 : 0 ≤ c) (hc1 : c < 256) (hn : ann c = 0 ∨ (len : Int) < ann c) :
    Calls Tryd.prog 78 #[.slice (some ⟨b, o, none⟩) len cap] w fun e w' => e = .returned (.tuple #[.int .i32 (-1), .int .i64 0]) ∧ w' = w := by
  unfold maxLen at hm
  have hne : ((len : Int) == 0) = false := by simp; omega
  generalize ha : ann c = n at hn
  rcases hn with rfl | hn
  · go_enter Tryd.func78, Tryd.ntmps78
    go_wp2_with (go_at_call 92; refine (announced_any _ _ (by omega) (by omega)).mono ?_; rintro e w' ⟨rfl, rfl⟩)
    go_ret2
    exact ⟨rfl, rfl⟩
  · have hz : (n == 0) = false := by simp; omega
    go_enter Tryd.func78, Tryd.ntmps78
    go_wp2_with (go_at_call 92; refine (announced_any _ _ (by omega) (by omega)).mono ?_; rintro e w' ⟨rfl, rfl⟩)
    go_ret2
    exact ⟨rfl, rfl⟩

set_option maxHeartbeats 400000 in
theorem dec_one (b o len cap : Nat) (c : Int) (w : World) (hl : 1 ≤ len) (hc : len ≤ cap) (hm : cap ≤ maxLen) (h0 : w.cell? ⟨b, o, none⟩ = some (.int .u8 c)) (hc0 : 0 ≤ c) (hc1 : c < 128) :
    Calls Tryd.prog 78 #[.slice (some ⟨b, o, none⟩) len cap] w fun e w' => e = .returned (.tuple #[.int .i32 c, .int .i64 1]) ∧ w' = w := by
  unfold maxLen at hm
  have ha : ann c = 1 := by unfold ann; simp; omega
  have hw : wid c = 1 := by unfold wid; repeat' split; all_goals omega
  have hne : ((len : Int) == 0) = false := by simp; omega
  have hn2 : ¬ ((len : Int) < 1) := by omega
  go_enter Tryd.func78, Tryd.ntmps78
  go_wp2_with (go_at_call 92; refine (announced_any _ _ (by omega) (by omega)).mono ?_; rintro e w' ⟨rfl, rfl⟩)
  all_goals
    refine wp_loop_rounds 1 ?_
    rw [rounds_succ]
    go_wp2_with (go_at_call 83; refine (width_any _ _).mono ?_; rintro e w' ⟨rfl, rfl⟩)
    go_ret2
    exact ⟨rfl, rfl⟩

set_option maxHeartbeats 400000 in
theorem dec_two (b o len cap : Nat) (c c1 : Int) (w : World) (hl : 2 ≤ len) (hc : len ≤ cap) (hm : cap ≤ maxLen) (h0 : w.cell? ⟨b, o, none⟩ = some (.int .u8 c)) (hc0 : 192 ≤ c) (hc1 : c < 224)
   (h1 : w.cell? ⟨b, o + 1, none⟩ = some (.int .u8 c1)) (hd0 : 0 ≤ c1) (hd1 : c1 < 256) :
    Calls Tryd.prog 78 #[.slice (some ⟨b, o, none⟩) len cap] w fun e w' => e = .returned (.tuple #[.int .i32 (dec2 c c1).1, .int .i64 (dec2 c c1).2]) ∧ w' = w := by
  unfold maxLen at hm
  have ha : ann c = 2 := by unfold ann; repeat' split; all_goals omega
  have hne : ((len : Int) == 0) = false := by simp; omega
  have hn2 : ¬ ((len : Int) < 2) := by omega
  have hcp : ¬ cap = 1 := by omega
  have e1 := i32_and31 c (by omega) (by omega)
  have e2 := u8_and63 c1 hd0 hd1
  go_enter Tryd.func78, Tryd.ntmps78
  go_wp2_with (go_at_call 92; refine (announced_any _ _ (by omega) (by omega)).mono ?_; rintro e w' ⟨rfl, rfl⟩)
  refine wp_loop_rounds 2 ?_
  rw [rounds_succ]
  go_wp2_with (go_at_call 83; refine (width_any _ _).mono ?_; rintro e w' ⟨rfl, rfl⟩)
  · go_ret2
    exact ⟨ret_pair (by unfold dec2; rw [tl_no ‹_›]; rfl), rfl⟩
  rw [rounds_succ]
  go_wp2_with (go_at_call 83; refine (width_any _ _).mono ?_; rintro e w' ⟨rfl, rfl⟩)
  · go_ret2
    exact ⟨ret_pair (by unfold dec2; rw [if_pos (tl_yes ‹_›), fin_bad ‹_›]), rfl⟩
  · go_ret2
    exact ⟨ret_pair (by unfold dec2; rw [if_pos (tl_yes ‹_›), fin_ok ‹_›]), rfl⟩

set_option maxHeartbeats 400000 in
theorem dec_three (b o len cap : Nat) (c c1 c2 : Int) (w : World) (hl : 3 ≤ len) (hc : len ≤ cap) (hm : cap ≤ maxLen) (h0 : w.cell? ⟨b, o, none⟩ = some (.int .u8 c)) (hc0 : 224 ≤ c) (hc1 : c < 240)
   (h1 : w.cell? ⟨b, o + 1, none⟩ = some (.int .u8 c1)) (hd0 : 0 ≤ c1) (hd1 : c1 < 256) (h2 : w.cell? ⟨b, o + 2, none⟩ = some (.int .u8 c2)) (hg0 : 0 ≤ c2) (hg1 : c2 < 256) :
    Calls Tryd.prog 78 #[.slice (some ⟨b, o, none⟩) len cap] w fun e w' => e = .returned (.tuple #[.int .i32 (dec3 c c1 c2).1, .int .i64 (dec3 c c1 c2).2]) ∧ w' = w := by
  unfold maxLen at hm
  have ha : ann c = 3 := by unfold ann; repeat' split; all_goals omega
  have hne : ((len : Int) == 0) = false := by simp; omega
  have hn2 : ¬ ((len : Int) < 3) := by omega
  have hcp : ¬ cap = 1 := by omega
  have e1 := i32_and15 c (by omega) (by omega)
  have e2 := u8_and63 c1 hd0 hd1
  have e3 := u8_and63 c2 hg0 hg1
  go_enter Tryd.func78, Tryd.ntmps78
  go_wp2_with (go_at_call 92; refine (announced_any _ _ (by omega) (by omega)).mono ?_; rintro e w' ⟨rfl, rfl⟩)
  refine wp_loop_rounds 3 ?_
  rw [rounds_succ]
  go_wp2_with (go_at_call 83; refine (width_any _ _).mono ?_; rintro e w' ⟨rfl, rfl⟩)
  · go_ret2
    exact ⟨ret_pair (by unfold dec3; rw [tl_no ‹_›]; simp), rfl⟩
  rw [rounds_succ]
  go_wp2_with (go_at_call 83; refine (width_any _ _).mono ?_; rintro e w' ⟨rfl, rfl⟩)
  · go_ret2
    exact ⟨ret_pair (by unfold dec3; rw [tl_no (c := c2) ‹_›]; simp), rfl⟩
  rw [rounds_succ]
  go_wp2_with (go_at_call 83; refine (width_any _ _).mono ?_; rintro e w' ⟨rfl, rfl⟩)
  · go_ret2
    exact ⟨ret_pair (by unfold dec3; rw [if_pos ⟨tl_yes (c := c1) ‹_›, tl_yes (c := c2) ‹_›⟩, fin_bad ‹_›]), rfl⟩
  · go_ret2
    exact ⟨ret_pair (by unfold dec3; rw [if_pos ⟨tl_yes (c := c1) ‹_›, tl_yes (c := c2) ‹_›⟩, fin_ok ‹_›]), rfl⟩

set_option maxHeartbeats 800000 in
theorem dec_four (b o len cap : Nat) (c c1 c2 c3 : Int) (w : World) (hl : 4 ≤ len) (hc : len ≤ cap) (hm : cap ≤ maxLen) (h0 : w.cell? ⟨b, o, none⟩ = some (.int .u8 c)) (hc0 : 240 ≤ c) (hc1 : c < 248)
   (h1 : w.cell? ⟨b, o + 1, none⟩ = some (.int .u8 c1)) (hd0 : 0 ≤ c1) (hd1 : c1 < 256) (h2 : w.cell? ⟨b, o + 2, none⟩ = some (.int .u8 c2)) (hg0 : 0 ≤ c2) (hg1 : c2 < 256)
   (h3 : w.cell? ⟨b, o + 3, none⟩ = some (.int .u8 c3)) (hk0 : 0 ≤ c3) (hk1 : c3 < 256) :
    Calls Tryd.prog 78 #[.slice (some ⟨b, o, none⟩) len cap] w fun e w' => e = .returned (.tuple #[.int .i32 (dec4 c c1 c2 c3).1, .int .i64 (dec4 c c1 c2 c3).2]) ∧ w' = w := by
  unfold maxLen at hm
  have ha : ann c = 4 := by unfold ann; repeat' split; all_goals omega
  have hne : ((len : Int) == 0) = false := by simp; omega
  have hn2 : ¬ ((len : Int) < 4) := by omega
  have hcp : ¬ cap = 1 := by omega
  have e1 := i32_and7 c (by omega) (by omega)
  have e2 := u8_and63 c1 hd0 hd1
  have e3 := u8_and63 c2 hg0 hg1
  have e4 := u8_and63 c3 hk0 hk1
  go_enter Tryd.func78, Tryd.ntmps78
  go_wp2_with (go_at_call 92; refine (announced_any _ _ (by omega) (by omega)).mono ?_; rintro e w' ⟨rfl, rfl⟩)
  refine wp_loop_rounds 4 ?_
  rw [rounds_succ]
  go_wp2_with (go_at_call 83; refine (width_any _ _).mono ?_; rintro e w' ⟨rfl, rfl⟩)
  · go_ret2
    exact ⟨ret_pair (by unfold dec4; rw [tl_no (c := c1) ‹_›]; simp), rfl⟩
  rw [rounds_succ]
  go_wp2_with (go_at_call 83; refine (width_any _ _).mono ?_; rintro e w' ⟨rfl, rfl⟩)
  · go_ret2
    exact ⟨ret_pair (by unfold dec4; rw [tl_no (c := c2) ‹_›]; simp), rfl⟩
  rw [rounds_succ]
  go_wp2_with (go_at_call 83; refine (width_any _ _).mono ?_; rintro e w' ⟨rfl, rfl⟩)
  · go_ret2
    exact ⟨ret_pair (by unfold dec4; rw [tl_no (c := c3) ‹_›]; simp), rfl⟩
  rw [rounds_succ]
  go_wp2_with (go_at_call 83; refine (width_any _ _).mono ?_; rintro e w' ⟨rfl, rfl⟩)
  · go_ret2
    exact ⟨ret_pair (by unfold dec4; rw [if_pos ⟨tl_yes (c := c1) ‹_›, tl_yes (c := c2) ‹_›, tl_yes (c := c3) ‹_›⟩, fin_bad ‹_›]), rfl⟩
  · go_ret2
    exact ⟨ret_pair (by unfold dec4; rw [if_pos ⟨tl_yes (c := c1) ‹_›, tl_yes (c := c2) ‹_›, tl_yes (c := c3) ‹_›⟩, fin_ok ‹_›]), rfl⟩

/-- A slice of bytes as it lies in memory: its bytes are the list. -/
def Bts (w : World) (a : Option Addr) (l : List Int) : Prop :=
  (∀ i, 0 ≤ l.getD i 0 ∧ l.getD i 0 < 256) ∧ (l = [] ∨ ∃ b o, a = some ⟨b, o, none⟩ ∧ ∀ i, i < l.length → w.cell? ⟨b, o + i, none⟩ = some (.int .u8 (l.getD i 0)))

theorem decode_any (a : Option Addr) (l : List Int) (cap : Nat) (w : World) (hc : l.length ≤ cap) (hm : cap ≤ maxLen) (hb : Bts w a l) :
    Calls Tryd.prog 78 #[.slice a l.length cap] w fun e w' => e = .returned (.tuple #[.int .i32 (dec l).1, .int .i64 (dec l).2]) ∧ w' = w := by
  obtain ⟨hby, rfl | ⟨b, o, rfl, hcell⟩⟩ := hb
  · exact dec_empty a cap w
  by_cases hl : l.length = 0
  · have : l = [] := List.eq_nil_of_length_eq_zero hl
    subst this
    exact dec_empty _ cap w
  have h0 := hcell 0 (by omega)
  have b0 := hby 0
  have b1 := hby 1
  have b2 := hby 2
  have b3 := hby 3
  unfold dec
  rw [if_neg hl]
  by_cases c0 : l.getD 0 0 < 128
  · rw [if_pos c0]
    exact dec_one b o l.length cap _ w (by omega) hc hm h0 b0.1 c0
  rw [if_neg c0]
  by_cases c1 : l.getD 0 0 < 192
  · rw [if_pos c1]
    exact dec_none b o l.length cap _ w (by omega) hc hm h0 b0.1 b0.2 (.inl (by unfold ann; rw [if_neg c0, if_pos c1]))
  rw [if_neg c1]
  by_cases c2 : l.getD 0 0 < 224
  · rw [if_pos c2]
    by_cases g : 2 ≤ l.length
    · rw [if_pos g]
      exact dec_two b o l.length cap _ _ w g hc hm h0 (by omega) c2 (hcell 1 (by omega)) b1.1 b1.2
    · rw [if_neg g]
      exact dec_none b o l.length cap _ w (by omega) hc hm h0 b0.1 b0.2 (.inr (by unfold ann; rw [if_neg c0, if_neg c1, if_pos c2]; omega))
  rw [if_neg c2]
  by_cases c3 : l.getD 0 0 < 240
  · rw [if_pos c3]
    by_cases g : 3 ≤ l.length
    · rw [if_pos g]
      exact dec_three b o l.length cap _ _ _ w g hc hm h0 (by omega) c3 (hcell 1 (by omega)) b1.1 b1.2 (hcell 2 (by omega)) b2.1 b2.2
    · rw [if_neg g]
      exact dec_none b o l.length cap _ w (by omega) hc hm h0 b0.1 b0.2 (.inr (by unfold ann; rw [if_neg c0, if_neg c1, if_neg c2, if_pos c3]; omega))
  rw [if_neg c3]
  by_cases c4 : l.getD 0 0 < 248
  · rw [if_pos c4]
    by_cases g : 4 ≤ l.length
    · rw [if_pos g]
      exact dec_four b o l.length cap _ _ _ _ w g hc hm h0 (by omega) c4 (hcell 1 (by omega)) b1.1 b1.2 (hcell 2 (by omega)) b2.1 b2.2 (hcell 3 (by omega)) b3.1 b3.2
    · rw [if_neg g]
      exact dec_none b o l.length cap _ w (by omega) hc hm h0 b0.1 b0.2 (.inr (by unfold ann; rw [if_neg c0, if_neg c1, if_neg c2, if_neg c3, if_pos c4]; omega))
  rw [if_neg c4]
  exact dec_none b o l.length cap _ w (by omega) hc hm h0 b0.1 b0.2 (.inl (by unfold ann; rw [if_neg c0, if_neg c1, if_neg c2, if_neg c3, if_neg c4]))
end Go.Proofs.YtjcgnbmpnaapdaaDoor
namespace Go.Proofs.YtjcgnbmpnaapdaaDoor
open Go.RowKit
set_option linter.unusedVariables false

/-- A text's bytes, as numbers. -/
def bl (s : ByteArray) : List Int := s.data.toList.map fun c => (c.toNat : Int)
theorem bl_len (s : ByteArray) : (bl s).length = s.size := by simp [bl]
theorem bl_bd (s : ByteArray) (i : Nat) : 0 ≤ (bl s).getD i 0 ∧ (bl s).getD i 0 < 256 := by
  unfold bl
  rw [List.getD_eq_getElem?_getD, List.getElem?_map]
  cases s.data.toList[i]? with
  | none => simp
  | some c => simp; have := c.toNat_lt; omega

theorem conv_bytes (s : ByteArray) (w : World) (hs : s.size ≤ maxLen) : ∃ cap w1, s.size ≤ cap ∧ cap ≤ maxLen ∧
    (convert 9 25 (.string s)).run Tryd.prog w = .ok (.slice (some ⟨w.heap.size, 0, none⟩) s.size cap) w1 ∧ Below w.heap.size w w1 ∧ w.heap.size < w1.heap.size ∧
    Bts w1 (some ⟨w.heap.size, 0, none⟩) (bl s) := by
  refine ⟨grownCap w s.size 0 5, _, grownCap_ge _ _ _ _, grownCap_le_maxLen _ _ _ _ hs, run_bytes_of_string w 9 25 5 s Tryd.underlying9 Tryd.underlying25 Tryd.underlying5, ?_, ?_, ?_⟩
  · exact (Below.refl _ _).drew.alloc (Nat.le_refl _) _
  · simp
  · refine ⟨bl_bd s, .inr ⟨_, _, rfl, fun i hi => ?_⟩⟩
    rw [bl_len] at hi
    have h := World.cell?_alloc_mark w.drew (bytesRow s (grownCap w s.size 0 5)) 5 ((bytesRow s (grownCap w s.size 0 5)).size, (bytesRow s (grownCap w s.size 0 5)).size + 1) i
    rw [Nat.zero_add]
    refine h.trans ?_
    rw [bytesRow_at s _ i hi]
    simp [bl, List.getD_eq_getElem?_getD, hi]

theorem getD_drop (l : List Int) (k i : Nat) : (l.drop k).getD i 0 = l.getD (k + i) 0 := by
  simp [List.getD_eq_getElem?_getD, List.getElem?_drop]
theorem Bts.drop {w : World} {b o : Nat} {l : List Int} (h : Bts w (some ⟨b, o, none⟩) l) (k : Nat) : Bts w (some ⟨b, o + k, none⟩) (l.drop k) := by
  refine ⟨fun i => by rw [getD_drop]; exact h.1 _, ?_⟩
  by_cases hk : k < l.length
  · rcases h.2 with rfl | ⟨b', o', he, hc⟩
    · simp at hk
    · refine .inr ⟨b, o + k, rfl, fun i hi => ?_⟩
      simp at he
      obtain ⟨rfl, rfl⟩ := he
      rw [getD_drop, Nat.add_assoc]
      exact hc (k + i) (by simp at hi; omega)
  · exact .inl (List.drop_eq_nil_of_le (by omega))
theorem decode_at (b o k : Nat) (l : List Int) (len cap : Nat) (w : World) (hl : l.length - k = len) (hc : l.length ≤ cap) (hm : cap ≤ maxLen) (hb : Bts w (some ⟨b, o, none⟩) l) :
    Calls Tryd.prog 78 #[.slice (some ⟨b, o + k, none⟩) len (cap - k)] w fun e w' => e = .returned (.tuple #[.int .i32 (dec (l.drop k)).1, .int .i64 (dec (l.drop k)).2]) ∧ w' = w := by
  have := decode_any _ _ (cap - k) w (by simp; omega) (by omega) (hb.drop k)
  rw [List.length_drop, hl] at this
  exact this
theorem decode_at0 (b k : Nat) (l : List Int) (len cap : Nat) (w : World) (hl : l.length - k = len) (hc : l.length ≤ cap) (hm : cap ≤ maxLen) (hb : Bts w (some ⟨b, 0, none⟩) l) :
    Calls Tryd.prog 78 #[.slice (some ⟨b, k, none⟩) len (cap - k)] w fun e w' => e = .returned (.tuple #[.int .i32 (dec (l.drop k)).1, .int .i64 (dec (l.drop k)).2]) ∧ w' = w := by
  have := decode_at b 0 k l len cap w hl hc hm hb
  rw [Nat.zero_add] at this
  exact this
end Go.Proofs.YtjcgnbmpnaapdaaDoor
namespace Go.Proofs.YtjcgnbmpnaapdaaDoor
open Go.RowKit
set_option linter.unusedVariables false

def sb (l : List Int) : ByteArray := ⟨(l.map fun n => UInt8.ofNat n.toNat).toArray⟩
theorem push_fold (l : List Int) (s : ByteArray) : l.foldl (fun r n => r.push (UInt8.ofNat n.toNat)) s = ⟨s.data ++ (l.map fun n => UInt8.ofNat n.toNat).toArray⟩ := by
  induction l generalizing s with
  | nil => simp
  | cons a l ih =>
    rw [List.foldl_cons, ih]
    simp [ByteArray.push]
theorem bl_sb (l : List Int) (h : ∀ i, 0 ≤ l.getD i 0 ∧ l.getD i 0 < 256) : bl (sb l) = l := by
  unfold bl sb
  rw [List.map_map]
  refine List.ext_getElem (by simp) fun i h1 h2 => ?_
  have := h i
  rw [List.getD_eq_getElem?_getD, List.getElem?_eq_getElem h2] at this
  simp at this ⊢
  omega
theorem sb_bl (s : ByteArray) : sb (bl s) = s := by
  unfold bl sb
  rw [List.map_map]
  have : (fun n : Int => UInt8.ofNat n.toNat) ∘ (fun c : UInt8 => (c.toNat : Int)) = id := by
    funext c; simp
  rw [this, List.map_id]
theorem addr_add (b o j : Nat) : (⟨b, o, none⟩ : Addr).add j = ⟨b, o + j, none⟩ := by
  by_cases h : j = 0 <;> simp [Addr.add, h]
theorem conv_string (b o cap : Nat) (l : List Int) (w : World) (h : ∀ i, i < l.length → w.cell? ⟨b, o + i, none⟩ = some (.int .u8 (l.getD i 0))) :
    (convert 25 9 (.slice (some ⟨b, o, none⟩) l.length cap)).run Tryd.prog w = .ok (.string (sb l)) w := by
  rw [run_convert_bytes_string w 25 9 5 _ _ _ Tryd.underlying25 Tryd.underlying5 Tryd.underlying9]
  have hl := run_loadCells_list (P := Tryd.prog) (w := w) ⟨b, o, none⟩ (l.map (Value.int .u8)) (fun j v hj => by
    rw [List.getElem?_map] at hj
    have hjl : j < l.length := by
      rcases Nat.lt_or_ge j l.length with h | h
      · exact h
      · rw [List.getElem?_eq_none h] at hj; simp at hj
    have := h j hjl
    rw [List.getD_eq_getElem?_getD, List.getElem?_eq_getElem hjl] at this
    rw [List.getElem?_eq_getElem hjl] at hj
    simp at hj
    rw [← hj]
    rw [addr_add]
    simpa using this)
  rw [List.length_map] at hl
  rw [run_bytesToString w ⟨b, o, none⟩ l.length cap l hl, push_fold]
  have e : ByteArray.empty.data = #[] := rfl
  rw [e, Array.empty_append]
  rfl
theorem conv_nil (w : World) : (convert 25 9 (.slice none 0 0)).run Tryd.prog w = .ok (.string ⟨#[]⟩) w := by
  rw [run_convert_bytes_string w 25 9 5 _ _ _ Tryd.underlying25 Tryd.underlying5 Tryd.underlying9]
  rfl

def col : List Int → List Int → Bool → List Int
  | [], out, _ => out
  | c :: l, out, gap => if isWhite c = true then col l out true else if gap = true ∧ 0 < out.length then col l (out ++ [32, c]) false else col l (out ++ [c]) false
theorem drop_at (l : List Int) (k : Nat) (h : k < l.length) : l.drop k = l.getD k 0 :: l.drop (k + 1) := by
  rw [List.drop_eq_getElem_cons h]
  simp [List.getD_eq_getElem?_getD, h]

def ColRel (w : World) (S n : Nat) (l : List Int) (v g i : Value) (wr : World) : Prop :=
  ∃ (k : Nat) (out : List Int) (gap : Bool), k ≤ n ∧ i = .int .i64 k ∧ g = .bool gap ∧ v = .slice (some ⟨w.heap.size, 0, none⟩) out.length n ∧
    wr.ownsRow w.heap.size 5 1 v out.length (out.map (Value.int .u8)) ∧ Below w.heap.size w wr ∧ S < wr.heap.size ∧
    (∀ j, j < n → wr.cell? ⟨S, j, none⟩ = some (.int .u8 (l.getD j 0))) ∧ out.length + gap.toNat ≤ k ∧ (∀ j, 0 ≤ out.getD j 0 ∧ out.getD j 0 < 256) ∧ col (l.drop k) out gap = col l [] false

/-- An append to the row at block G leaves what lies below G, and the row at S. -/
theorem grow_keep {w wr w2 : World} {S n : Nat} {l : List Int} {o : Obj} (hB : Below w.heap.size w wr) (hS : S < wr.heap.size) (hlt : w.heap.size < S)
    (hc : ∀ j, j < n → wr.cell? ⟨S, j, none⟩ = some (.int .u8 (l.getD j 0))) (hg : (wr.alloc o).grownBy w2 (some w.heap.size)) :
    Below w.heap.size w w2 ∧ S < w2.heap.size ∧ ∀ j, j < n → w2.cell? ⟨S, j, none⟩ = some (.int .u8 (l.getD j 0)) := by
  have hs := hg.size
  simp at hs
  refine ⟨(hB.alloc hB.size _).grown hg (by simp; have := hB.size; omega) (fun k hk => by cases hk; exact Nat.le_refl _), by omega, fun j hj => ?_⟩
  refine hg.cell ?_ (by simp; omega)
  rw [World.cell?_alloc_past o S j hS]
  exact hc j hj
theorem getD_app {out : List Int} (h : ∀ j, 0 ≤ out.getD j 0 ∧ out.getD j 0 < 256) (c : Int) (h0 : 0 ≤ c) (h1 : c < 256) : ∀ j, 0 ≤ (out ++ [c]).getD j 0 ∧ (out ++ [c]).getD j 0 < 256 := by
  intro j
  rcases Nat.lt_trichotomy j out.length with g | g | g
  · have := h j
    rw [List.getD_eq_getElem?_getD] at this ⊢
    rw [List.getElem?_append_left g]
    exact this
  · subst g
    simp [List.getD_eq_getElem?_getD, h0, h1]
  · rw [List.getD_eq_getElem?_getD, List.getElem?_eq_none (by simp; omega)]
    simp
theorem info5 : (Tryd.prog.info? 5).map (fun i => (i.zero, i.size, i.bytes)) = some (some (.int .u8 0), 1, 1) := by kernel_rfl

end Go.Proofs.YtjcgnbmpnaapdaaDoor
namespace Go.Proofs.YtjcgnbmpnaapdaaDoor
open Go.RowKit
set_option linter.unusedVariables false

theorem Bts.below {w w' : World} {a : Option Addr} {l : List Int} (h : Bts w a l) (hb : Below w.heap.size w w') : Bts w' a l := by
  refine ⟨h.1, ?_⟩
  rcases h.2 with h0 | ⟨b, o, rfl, hc⟩
  · exact .inl h0
  · refine .inr ⟨b, o, rfl, fun i hi => ?_⟩
    have := hc i hi
    exact (hb.cell (World.block_lt_of_cell? w _ this)).trans this
theorem conv_bts (a : Option Addr) (cap : Nat) (l : List Int) (w : World) (h : Bts w a l) (h0 : a = none → l = [] ∧ cap = 0) : (convert 25 9 (.slice a l.length cap)).run Tryd.prog w = .ok (.string (sb l)) w := by
  rcases h.2 with rfl | ⟨b, o, rfl, hc⟩
  · cases a with
    | none => obtain ⟨_, rfl⟩ := h0 rfl; exact conv_nil w
    | some x =>
      obtain ⟨b, o, sp⟩ := x
      rw [run_convert_bytes_string w 25 9 5 _ _ _ Tryd.underlying25 Tryd.underlying5 Tryd.underlying9]
      rfl
  · exact conv_string b o cap l w hc

theorem bts_drewN {w : World} {a : Option Addr} {l : List Int} (h : Bts w a l) (n : Nat) : Bts (w.drewN n) a l := by
  refine ⟨h.1, ?_⟩
  rcases h.2 with h0 | ⟨b, o, rfl, hc⟩
  · exact .inl h0
  · exact .inr ⟨b, o, rfl, fun i hi => hc i hi⟩
theorem fin_rng (r n : Int) : -1 ≤ (fin r n).1 ∧ (fin r n).1 ≤ 1114111 ∨ n = 0 := by
  unfold fin
  split
  · rename_i h
    by_cases h0 : n = 0
    · exact .inr h0
    · refine .inl ?_
      rw [← h] at h0
      unfold wid at h0
      simp only
      repeat' split at h0
      all_goals (first | omega | simp at h0)
  · simp
theorem dec_rng (l : List Int) (hby : ∀ i, 0 ≤ l.getD i 0 ∧ l.getD i 0 < 256) : -1 ≤ (dec l).1 ∧ (dec l).1 ≤ 1114111 := by
  have h0 := hby 0
  unfold dec dec2 dec3 dec4
  repeat' split
  all_goals (first | (simp; done) | (have h := fin_rng (l.getD 0 0 % 32 * 64 + l.getD 1 0 % 64) 2; omega) | (have h := fin_rng ((l.getD 0 0 % 16 * 64 + l.getD 1 0 % 64) * 64 + l.getD 2 0 % 64) 3; omega) | (have h := fin_rng (((l.getD 0 0 % 8 * 64 + l.getD 1 0 % 64) * 64 + l.getD 2 0 % 64) * 64 + l.getD 3 0 % 64) 4; omega) | (dsimp only; omega))
/-- What stays as it was while the statement goes on: the row of bytes, and all that lay there at its begin. -/
def Kept (w : World) (a : Option Addr) (l : List Int) (W : World) : Prop := Bts W a l ∧ Below w.heap.size w W
theorem Kept.drew {w W : World} {a : Option Addr} {l : List Int} (h : Kept w a l W) : Kept w a l W.drew := ⟨bts_drewN h.1 1, h.2.drew⟩
theorem Kept.step {w W W' : World} {a : Option Addr} {l : List Int} (h : Kept w a l W) (hb : Below W.heap.size W W') : Kept w a l W' := ⟨Bts.below h.1 hb, h.2.trans (hb.mono h.2.size)⟩
theorem wrap_i64_of (x : Int) (h0 : -9223372036854775808 ≤ x) (h1 : x ≤ 9223372036854775807) : IntKind.i64.wrap x = x := by
  simp [IntKind.wrap, IntKind.bits, IntKind.signed]
  split <;> omega
end Go.Proofs.YtjcgnbmpnaapdaaDoor
namespace Go.Proofs.YtjcgnbmpnaapdaaDoor
open Go.RowKit
set_option linter.unusedVariables false

theorem bts_alloc (w : World) (l : List Int) (h : ∀ i, 0 ≤ l.getD i 0 ∧ l.getD i 0 < 256) : Bts (w.alloc (.cells (l.map (Value.int .u8)).toArray 5)) (some ⟨w.heap.size, 0, none⟩) l := by
  refine ⟨h, .inr ⟨_, _, rfl, fun i hi => ?_⟩⟩
  rw [Nat.zero_add, World.cell?_alloc_at _ _ _ i rfl]
  simp [List.getD_eq_getElem?_getD, hi]

theorem wid_rng (r : Int) : (wid r = 0 → r < 0 ∨ 1114111 < r ∨ (55296 ≤ r ∧ r ≤ 57343)) ∧ (wid r = 1 → 0 ≤ r ∧ r < 128) ∧ (wid r = 2 → 128 ≤ r ∧ r < 2048) ∧
    (wid r = 3 → 2048 ≤ r ∧ r < 65536 ∧ ¬ (55296 ≤ r ∧ r ≤ 57343)) ∧ (wid r = 4 → 65536 ≤ r ∧ r ≤ 1114111) := by
  unfold wid
  repeat' split
  all_goals omega
theorem enc0 {r : Int} (h : wid r = 0) : enc r = [] := by unfold enc; rw [h]; rfl
theorem enc1 {r : Int} (h : wid r = 1) : enc r = [r] := by unfold enc; rw [h]; rfl
theorem enc2 {r : Int} (h : wid r = 2) : enc r = [192 + r / 64, 128 + r % 64] := by unfold enc; rw [h]; rfl
theorem enc3 {r : Int} (h : wid r = 3) : enc r = [224 + r / 4096, 128 + r / 64 % 64, 128 + r % 64] := by unfold enc; rw [h]; rfl
theorem enc4 {r : Int} (h : wid r = 4) : enc r = [240 + r / 262144, 128 + r / 4096 % 64, 128 + r / 64 % 64, 128 + r % 64] := by unfold enc; rw [h]; rfl
theorem bd_cons {a : Int} {l : List Int} (h0 : 0 ≤ a) (h1 : a < 256) (h : ∀ i, 0 ≤ l.getD i 0 ∧ l.getD i 0 < 256) : ∀ i, 0 ≤ (a :: l).getD i 0 ∧ (a :: l).getD i 0 < 256 := by
  intro i
  cases i with
  | zero => simpa using ⟨h0, h1⟩
  | succ n => simpa using h n
theorem bd_nil : ∀ i, 0 ≤ ([] : List Int).getD i 0 ∧ ([] : List Int).getD i 0 < 256 := by intro i; simp
theorem enc_bd (r : Int) : ∀ i, 0 ≤ (enc r).getD i 0 ∧ (enc r).getD i 0 < 256 := by
  have hw := wid_rng r
  rcases wid_cases r with h | h | h | h | h
  · rw [enc0 h]; exact bd_nil
  · rw [enc1 h]; have := hw.2.1 h; exact bd_cons (by omega) (by omega) bd_nil
  · rw [enc2 h]; have := hw.2.2.1 h; exact bd_cons (by omega) (by omega) (bd_cons (by omega) (by omega) bd_nil)
  · rw [enc3 h]; have := hw.2.2.2.1 h; exact bd_cons (by omega) (by omega) (bd_cons (by omega) (by omega) (bd_cons (by omega) (by omega) bd_nil))
  · rw [enc4 h]; have := hw.2.2.2.2 h; exact bd_cons (by omega) (by omega) (bd_cons (by omega) (by omega) (bd_cons (by omega) (by omega) (bd_cons (by omega) (by omega) bd_nil)))

def EncPost (w : World) (r : Int) (e : Ending) (w' : World) : Prop :=
  ∃ a, e = .returned (.slice a (enc r).length (enc r).length) ∧ Bts w' a (enc r) ∧ Below w.heap.size w w' ∧ (a = none → enc r = [])
theorem encPost_new {w : World} {r : Int} {l : List Int} (h : enc r = l) : EncPost w r (.returned (.slice (some ⟨w.heap.size, 0, none⟩) l.length l.length)) (w.alloc (.cells (l.map (Value.int .u8)).toArray 5)) := by
  subst h
  exact ⟨_, rfl, bts_alloc w _ (enc_bd r), (Below.refl _ _).alloc (Nat.le_refl _) _, fun h => by cases h⟩
theorem encPost_nil {w : World} {r : Int} (h : enc r = []) : EncPost w r (.returned (.slice none 0 0)) w := by
  refine ⟨none, by rw [h]; rfl, by rw [h]; exact ⟨bd_nil, .inl rfl⟩, Below.refl _ _, fun _ => h⟩

set_option maxHeartbeats 400000 in
theorem encode_any (r : Int) (w : World) : Calls Tryd.prog 64 #[.int .i32 r] w (EncPost w r) := by
  have hw := wid_rng r
  rcases wid_cases r with h | h | h | h | h
  · have HE : Hid _ := enc0 h
    clear hw
    go_enter Tryd.func64, Tryd.ntmps64
    go_wp2_with (go_at_call 83; refine (width_any _ _).mono ?_; rintro e w' ⟨rfl, rfl⟩)
    go_ret
    exact encPost_nil HE.out
  · have HE : Hid _ := enc1 h
    have hr := hw.2.1 h
    have j1 : r % 256 = r := by omega
    clear hw
    go_enter Tryd.func64, Tryd.ntmps64
    go_wp2_with (go_at_call 83; refine (width_any _ _).mono ?_; rintro e w' ⟨rfl, rfl⟩)
    go_ret
    exact encPost_new HE.out
  · have HE : Hid _ := enc2 h
    have hr := hw.2.2.1 h
    have h0 := hr.1
    have h1 := hr.2
    have j1 := i32_join 6 192 (r / 64) (by omega) (by omega) (by omega) (by omega) (by omega) (by omega)
    have j2 : (192 + r / 64) % 256 = 192 + r / 64 := by omega
    clear hw hr
    go_enter Tryd.func64, Tryd.ntmps64
    go_wp2_with (first | (go_at_call 83; refine (width_any _ _).mono ?_; rintro e w' ⟨rfl, rfl⟩) | (go_at_call 84; refine (later_any _ _ (by omega) (by omega)).mono ?_; rintro e w' ⟨rfl, rfl⟩))
    go_ret
    exact encPost_new HE.out
  · have HE : Hid _ := enc3 h
    have hr := hw.2.2.2.1 h
    have h0 := hr.1
    have h1 := hr.2.1
    have j1 := i32_join 5 224 (r / 4096) (by omega) (by omega) (by omega) (by omega) (by omega) (by omega)
    have j2 : (224 + r / 4096) % 256 = 224 + r / 4096 := by omega
    clear hw hr
    go_enter Tryd.func64, Tryd.ntmps64
    go_wp2_with (first | (go_at_call 83; refine (width_any _ _).mono ?_; rintro e w' ⟨rfl, rfl⟩) | (go_at_call 84; refine (later_any _ _ (by omega) (by omega)).mono ?_; rintro e w' ⟨rfl, rfl⟩))
    go_ret
    exact encPost_new HE.out
  · have HE : Hid _ := enc4 h
    have hr := hw.2.2.2.2 h
    have h0 := hr.1
    have h1 := hr.2
    have j1 := i32_join 4 240 (r / 262144) (by omega) (by omega) (by omega) (by omega) (by omega) (by omega)
    have j2 : (240 + r / 262144) % 256 = 240 + r / 262144 := by omega
    clear hw hr
    go_enter Tryd.func64, Tryd.ntmps64
    go_wp2_with (first | (go_at_call 83; refine (width_any _ _).mono ?_; rintro e w' ⟨rfl, rfl⟩) | (go_at_call 84; refine (later_any _ _ (by omega) (by omega)).mono ?_; rintro e w' ⟨rfl, rfl⟩))
    go_ret
    exact encPost_new HE.out

end Go.Proofs.YtjcgnbmpnaapdaaDoor
namespace Go.Proofs.YtjcgnbmpnaapdaaDoor
open Go.RowKit
set_option linter.unusedVariables false

/-- The parser's twenty cells. -/
structure PV where
  b : Value
  k : Int
  long : Bool
  d : Int
  n : Int
  a : Int
  t : Int
  ps : Int
  rw : Int
  op : Value
  nodes : Int
  begun : Bool
  tat : Int
  tout : Value
  ready : Value
  depth : Int
  most : Int
  over : Bool
  fat : Int
  ferr : Int
def PV.cells (v : PV) : Array Value := #[v.b, .int .i64 v.k, .bool v.long, .int .i64 v.d, .int .i64 v.n, .int .i64 v.a, .int .i64 v.t, .int .i64 v.ps, .int .i64 v.rw, v.op, .int .i64 v.nodes,
  .bool v.begun, .int .i64 v.tat, v.tout, v.ready, .int .i64 v.depth, .int .i64 v.most, .bool v.over, .int .i64 v.fat, .int .i64 v.ferr]
def PS (w : World) (P : Nat) (v : PV) : Prop := w.heap[P]? = some (.cells v.cells 81 (0, 0))

theorem PS.cell {w : World} {P : Nat} {v : PV} (h : PS w P v) (i : Nat) : w.cell? ⟨P, i, none⟩ = v.cells[i]? := by
  unfold PS at h; simp [World.cell?, h]
theorem PS.froz {w : World} {P : Nat} {v : PV} (h : PS w P v) (i : Nat) : w.frozen? ⟨P, i, none⟩ = false := by
  unfold PS at h; simp [World.frozen?, h]
theorem PS.lt {w : World} {P : Nat} {v : PV} (h : PS w P v) : P < w.heap.size := (Array.getElem?_eq_some_iff.1 h).1
theorem PS.kept {w w' : World} {P : Nat} {v : PV} {row : Option Nat} (h : PS w P v) (hg : w.grownBy w' row) (hne : some P ≠ row) : PS w' P v := (hg.block P h.lt hne).trans h
theorem PS.drewN {w : World} {P : Nat} {v : PV} (h : PS w P v) (n : Nat) : PS (w.drewN n) P v := h
theorem PS.set {w : World} {P : Nat} {v v' : PV} (h : PS w P v) (i : Nat) (x : Value) (hx : v.cells.setIfInBounds i x = v'.cells) : PS (w.setCell ⟨P, i, none⟩ x) P v' := by
  unfold PS at *
  simp only [World.setCell, Array.getElem?_modify]
  rw [if_pos trivial, h]
  simp [hx]
theorem PS.set_k {w : World} {P : Nat} {v : PV} (h : PS w P v) (x : Int) : PS (w.setCell ⟨P, 1, none⟩ (.int .i64 x)) P { v with k := x } := h.set 1 _ rfl
/-- The bytes, the place: what a scanner reads. -/
theorem PS.rd {w : World} {P : Nat} {v : PV} (h : PS w P v) : w.cell? ⟨P, 0, none⟩ = some v.b ∧ w.cell? ⟨P, 1, none⟩ = some (.int .i64 v.k) ∧ w.frozen? ⟨P, 1, none⟩ = false :=
  ⟨h.cell 0, h.cell 1, h.froz 1⟩

theorem grownBy_trans {a b c : World} {row : Option Nat} (h : a.grownBy b row) (k : b.grownBy c row) : a.grownBy c row :=
  ⟨k.os.trans h.os, k.tape.trans h.tape, k.output.trans h.output, Nat.le_trans h.size k.size, fun i hi hne => (k.block i (Nat.lt_of_lt_of_le hi h.size) hne).trans (h.block i hi hne)⟩
theorem grownBy_drewN (w : World) (n : Nat) (row : Option Nat) : w.grownBy (w.drewN n) row := ⟨rfl, rfl, rfl, Nat.le_refl _, fun _ _ _ => rfl⟩
theorem grownBy_set (w : World) (b i : Nat) (x : Value) : w.grownBy (w.setCell ⟨b, i, none⟩ x) (some b) :=
  ⟨rfl, rfl, rfl, by simp [World.setCell], fun k _ hne => Below.heap_setCell _ _ _ _ (by intro e; apply hne; rw [e])⟩
theorem grownBy_of_below {w w' : World} (h : Below w.heap.size w w') (row : Option Nat) : w.grownBy w' row := ⟨h.os, h.tape, h.output, h.size, fun k hk _ => h.block k hk⟩

/-- The parser's bytes: a row of its own. -/
def BR (w : World) (vb : Value) (l : Bs) : Prop := w.ownsRow 0 5 1 vb l.length (l.map (Value.int .u8)) ∧ ∀ i, 0 ≤ l.getD i 0 ∧ l.getD i 0 < 256

theorem own_ne81 {w : World} {P n size base : Nat} {e : TypeId} {v : PV} {vb : Value} {xs : List Value} (h : PS w P v) (hb : w.ownsRow base e size vb n xs) (he : e ≠ 81) : vb.ownBlock = none ∨ vb.ownBlock ≠ some P := by
  rcases hb.2 with ⟨rfl, _⟩ | ⟨g, cap, cur, rfl, _, hg, _⟩
  · exact .inl rfl
  · refine .inr fun hx => ?_
    simp [Value.ownBlock] at hx
    subst hx
    unfold PS at h
    rw [h] at hg
    simp at hg
    exact he hg.2.symm
theorem BR.kept {w w' : World} {P : Nat} {v : PV} {vb : Value} {l : Bs} (hb : BR w vb l) (h : PS w P v) (hg : w.grownBy w' (some P)) : BR w' vb l :=
  ⟨hb.1.kept hg (own_ne81 h hb.1 (by decide)), hb.2⟩
theorem BR.form {w : World} {vb : Value} {l : Bs} (h : BR w vb l) :
    (vb = .slice none 0 0 ∧ l = []) ∨ ∃ g cap, vb = .slice (some ⟨g, 0, none⟩) l.length cap ∧ l.length ≤ cap ∧ cap ≤ maxLen ∧ Bts w (some ⟨g, 0, none⟩) l := by
  rcases h.1.2 with ⟨rfl, h0⟩ | ⟨g, cap, cur, rfl, hbg, hg, hnc, hcm, hcs, htake⟩
  · exact .inl ⟨rfl, List.eq_nil_of_length_eq_zero h0⟩
  · refine .inr ⟨g, cap, rfl, hnc, hcm, h.2, ?_⟩
    by_cases hl : l = []
    · exact .inl hl
    · refine .inr ⟨g, 0, rfl, fun i hi => ?_⟩
      have := h.1.cells (g := g) rfl i (.int .u8 (l.getD i 0)) (by simp [List.getD_eq_getElem?_getD, hi])
      rw [addr_add] at this
      exact this

/-- A scanner's steps: only the place has turned, and what is new. -/
structure Mv (P : Nat) (w w' : World) (v' : PV) : Prop where
  g : w.grownBy w' (some P)
  p : PS w' P v'
theorem Mv.refl {P : Nat} {w : World} {v : PV} (h : PS w P v) : Mv P w w v := ⟨World.grownBy.refl _ _, h⟩
theorem Mv.trans {P : Nat} {w w1 w2 : World} {v1 v2 : PV} (h : Mv P w w1 v1) (k : Mv P w1 w2 v2) : Mv P w w2 v2 := ⟨grownBy_trans h.g k.g, k.p⟩
theorem Mv.drewN {P : Nat} {w w' : World} {v' : PV} (h : Mv P w w' v') (n : Nat) : Mv P w (w'.drewN n) v' := ⟨grownBy_trans h.g (grownBy_drewN _ _ _), h.p⟩
theorem Mv.set_k {P : Nat} {w w' : World} {v' : PV} (h : Mv P w w' v') (x : Int) : Mv P w (w'.setCell ⟨P, 1, none⟩ (.int .i64 x)) { v' with k := x } := ⟨grownBy_trans h.g (grownBy_set _ _ _ _), h.p.set_k x⟩
theorem Mv.alloc {P : Nat} {w w' : World} {v' : PV} (h : Mv P w w' v') (o : Obj) : Mv P w (w'.alloc o) v' := ⟨grownBy_trans h.g (World.grownBy_alloc _ _ _), h.p.kept (World.grownBy_alloc _ _ none) (by simp)⟩

def flt (place err : Int) : List PanicEntry := [{ v := .iface 79 (.agg #[.int .i64 place, .int .i64 err]), recovered := false }]

/-- The parser at a place of its bytes. -/
structure In (P : Nat) (w : World) (v : PV) (l : Bs) (k : Nat) : Prop where
  ps : PS w P v
  br : BR w v.b l
  ke : v.k = (k : Int)
  kl : k ≤ l.length
  ll : l.length ≤ 65536
theorem In.mv {P k k' : Nat} {w w' : World} {v : PV} {l : Bs} (h : In P w v l k) (hm : Mv P w w' { v with k := (k' : Int) }) (hk : k' ≤ l.length) : In P w' { v with k := (k' : Int) } l k' :=
  ⟨hm.p, h.br.kept h.ps hm.g, rfl, hk, h.ll⟩
theorem In.drewN {P k : Nat} {w : World} {v : PV} {l : Bs} (h : In P w v l k) (n : Nat) : In P (w.drewN n) v l k := ⟨h.ps, h.br, h.ke, h.kl, h.ll⟩
theorem In.self {P k : Nat} {w : World} {v : PV} {l : Bs} (h : In P w v l k) : In P w { v with k := (k : Int) } l k := by
  have e : { v with k := (k : Int) } = v := by rw [← h.ke]
  rw [e]; exact h
theorem In.rd {P k : Nat} {w : World} {v : PV} {l : Bs} (h : In P w v l k) : w.cell? ⟨P, 1, none⟩ = some (.int .i64 k) := by rw [← h.ke]; exact h.ps.cell 1
theorem In.alloc {P k : Nat} {w : World} {v : PV} {l : Bs} (h : In P w v l k) (o : Obj) : In P (w.alloc o) v l k :=
  ⟨h.ps.kept (World.grownBy_alloc _ _ none) (by simp), ⟨h.br.1.alloc o, h.br.2⟩, h.ke, h.kl, h.ll⟩

/-- What a scanner answers. -/
def Scan {α : Type} (P : Nat) (w : World) (v : PV) (l : Bs) (ret : α → Value) (r : R α) (e : Ending) (w' : World) : Prop :=
  match r with
  | .ok a k => e = .returned (ret a) ∧ w.grownBy w' (some P) ∧ In P w' { v with k := (k : Int) } l k
  | .bad p er => e = .panicked (flt p er) ∧ w.grownBy w' (some P) ∧ ∃ k : Int, PS w' P { v with k := k }
theorem scan_ok {α : Type} {P N : Nat} {args : Array Value} {w : World} {v : PV} {l : Bs} {ret : α → Value} {r : R α} {a : α} {k : Nat} (h : Calls Tryd.prog N args w (Scan P w v l ret r)) (hr : r = .ok a k) :
    Calls Tryd.prog N args w fun e w' => e = .returned (ret a) ∧ w.grownBy w' (some P) ∧ In P w' { v with k := (k : Int) } l k := by
  subst hr; exact h
theorem scan_bad {α : Type} {P N : Nat} {args : Array Value} {w : World} {v : PV} {l : Bs} {ret : α → Value} {r : R α} {p er : Int} (h : Calls Tryd.prog N args w (Scan P w v l ret r)) (hr : r = .bad p er) :
    Calls Tryd.prog N args w fun e w' => e = .panicked (flt p er) ∧ w.grownBy w' (some P) ∧ ∃ k : Int, PS w' P { v with k := k } := by
  subst hr; exact h
abbrev ret0 : Unit → Value := fun _ => .tuple #[]
end Go.Proofs.YtjcgnbmpnaapdaaDoor
