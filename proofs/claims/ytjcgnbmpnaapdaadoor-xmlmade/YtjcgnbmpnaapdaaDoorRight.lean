/- Contracts of the reference's tail and Decode. -/
import Derived.Test.YtjcgnbmpnaapdaaDoorFrame
namespace Go.Proofs.YtjcgnbmpnaapdaaDoor
open Go.RowKit
set_option linter.unusedVariables false

def tlv (l : List Int) (i : Nat) : Int := if i < l.length ∧ isTl (l.getD i 0) = true then l.getD i 0 % 64 else -1
theorem tlv_bd (l : List Int) (i : Nat) : tlv l i = -1 ∨ (0 ≤ tlv l i ∧ tlv l i < 64) := by
  unfold tlv; split <;> omega

set_option maxHeartbeats 400000 in
theorem tail_any (a : Option Addr) (l : List Int) (cap : Nat) (i : Int) (w : World) (h0 : 0 ≤ i) (h1 : i < 100) (hm : l.length ≤ maxLen) (hb : Bts w a l) :
    Calls Tryd.prog 26 #[.slice a l.length cap, .int .i64 i] w fun e w' => e = .returned (.int .i64 (tlv l i.toNat)) ∧ w' = w := by
  unfold maxLen at hm
  obtain ⟨n, rfl⟩ := Int.eq_ofNat_of_zero_le h0
  by_cases hn : n < l.length
  · obtain ⟨hby, rfl | ⟨b, o, rfl, hcell⟩⟩ := hb
    · simp at hn
    have hc := hcell n hn
    have hbn := hby n
    have e1 := u8_and192 _ hbn.1 hbn.2
    have e2 := u8_and63 _ hbn.1 hbn.2
    have hlt : ¬ ((l.length : Int) ≤ (n : Int)) := by omega
    generalize hx : l.getD n 0 = x at *
    have hx' : Hid (l.getD n 0 = x) := hx
    clear hx hby hcell
    go_enter Tryd.func26, Tryd.ntmps26
    go_wp2
    · go_ret
      refine ⟨ret_int ?_, rfl⟩
      unfold tlv isTl
      simp only [hx'.out]
      rw [if_neg]
      simp at *
      omega
    · go_ret
      refine ⟨ret_int ?_, rfl⟩
      unfold tlv isTl
      simp only [hx'.out]
      rw [if_pos]
      simp at *
      omega
  · have hle : (l.length : Int) ≤ (n : Int) := by omega
    go_enter Tryd.func26, Tryd.ntmps26
    go_wp2
    go_ret
    refine ⟨ret_int ?_, rfl⟩
    unfold tlv
    rw [if_neg]
    simp; omega

theorem dec_2 {l : List Int} (hl : ¬ l.length = 0) (c0 : 192 ≤ l.getD 0 0) (c1 : l.getD 0 0 < 224) : dec l = if 0 ≤ tlv l 1 then fin (l.getD 0 0 % 32 * 64 + tlv l 1) 2 else (-1, 0) := by
  unfold dec dec2 tlv
  rw [if_neg hl, if_neg (by omega), if_neg (by omega), if_pos c1]
  by_cases g : 2 ≤ l.length
  · by_cases t : isTl (l.getD 1 0) = true
    · rw [if_pos g, if_pos t, if_pos (c := 1 < l.length ∧ _) ⟨by omega, t⟩, if_pos (by omega)]
    · rw [if_pos g, if_neg t, if_neg (c := 1 < l.length ∧ _) (fun h => t h.2), if_neg (by omega)]
  · rw [if_neg g, if_neg (c := 1 < l.length ∧ _) (fun h => by omega), if_neg (by omega)]
theorem dec_3 {l : List Int} (hl : ¬ l.length = 0) (c0 : 224 ≤ l.getD 0 0) (c1 : l.getD 0 0 < 240) : dec l = if 0 ≤ tlv l 1 ∧ 0 ≤ tlv l 2 then fin ((l.getD 0 0 % 16 * 64 + tlv l 1) * 64 + tlv l 2) 3 else (-1, 0) := by
  unfold dec dec3 tlv
  rw [if_neg hl, if_neg (by omega), if_neg (by omega), if_neg (by omega), if_pos c1]
  by_cases g : 3 ≤ l.length
  · by_cases t : isTl (l.getD 1 0) = true
    · by_cases u : isTl (l.getD 2 0) = true
      · rw [if_pos g, if_pos ⟨t, u⟩, if_pos (c := 1 < l.length ∧ _) ⟨by omega, t⟩, if_pos (c := 2 < l.length ∧ _) ⟨by omega, u⟩, if_pos (by omega)]
      · rw [if_pos g, if_neg (fun h => u h.2), if_neg (c := 2 < l.length ∧ _) (fun h => u h.2), if_neg (fun h => by omega)]
    · rw [if_pos g, if_neg (fun h => t h.1), if_neg (c := 1 < l.length ∧ _) (fun h => t h.2), if_neg (fun h => by omega)]
  · rw [if_neg g, if_neg (c := 2 < l.length ∧ _) (fun h => by omega), if_neg (fun h => by omega)]
theorem dec_4 {l : List Int} (hl : ¬ l.length = 0) (c0 : 240 ≤ l.getD 0 0) (c1 : l.getD 0 0 < 248) : dec l = if 0 ≤ tlv l 1 ∧ 0 ≤ tlv l 2 ∧ 0 ≤ tlv l 3 then fin (((l.getD 0 0 % 8 * 64 + tlv l 1) * 64 + tlv l 2) * 64 + tlv l 3) 4 else (-1, 0) := by
  unfold dec dec4 tlv
  rw [if_neg hl, if_neg (by omega), if_neg (by omega), if_neg (by omega), if_neg (by omega), if_pos c1]
  by_cases g : 4 ≤ l.length
  · by_cases t : isTl (l.getD 1 0) = true
    · by_cases u : isTl (l.getD 2 0) = true
      · by_cases v : isTl (l.getD 3 0) = true
        · rw [if_pos g, if_pos ⟨t, u, v⟩, if_pos (c := 1 < l.length ∧ _) ⟨by omega, t⟩, if_pos (c := 2 < l.length ∧ _) ⟨by omega, u⟩, if_pos (c := 3 < l.length ∧ _) ⟨by omega, v⟩, if_pos (by omega)]
        · rw [if_pos g, if_neg (fun h => v h.2.2), if_neg (c := 3 < l.length ∧ _) (fun h => v h.2), if_neg (fun h => by omega)]
      · rw [if_pos g, if_neg (fun h => u h.2.1), if_neg (c := 2 < l.length ∧ _) (fun h => u h.2), if_neg (fun h => by omega)]
    · rw [if_pos g, if_neg (fun h => t h.1), if_neg (c := 1 < l.length ∧ _) (fun h => t h.2), if_neg (fun h => by omega)]
  · rw [if_neg g, if_neg (c := 3 < l.length ∧ _) (fun h => by omega), if_neg (fun h => by omega)]

theorem fin_no {r n : Int} (h : ¬ wid r = n) : fin r n = (-1, 0) := by unfold fin; rw [if_neg h]
theorem fin_yes {r n : Int} (h : wid r = n) : fin r n = (r, n) := by unfold fin; rw [if_pos h]

set_option maxHeartbeats 1000000 in
theorem rdec_two (b o cap : Nat) (l : List Int) (c t1 : Int) (w : World) (hl : 1 ≤ l.length) (hc : l.length ≤ cap) (hm : cap ≤ maxLen) (hb : Bts w (some ⟨b, o, none⟩) l) (h0 : w.cell? ⟨b, o, none⟩ = some (.int .u8 c)) (hc0 : 192 ≤ c) (hc1 : c < 224)
    (p : Int × Int) (ht1 : tlv l 1 = t1) (hbd1 : t1 = -1 ∨ (0 ≤ t1 ∧ t1 < 64)) (hno : ¬ (0 ≤ t1) → p = (-1, 0)) (hyes : 0 ≤ t1 → p = fin (c % 32 * 64 + t1) 2) :
    Calls Tryd.prog 17 #[.slice (some ⟨b, o, none⟩) l.length cap] w fun e w' => e = .returned (.tuple #[.int .i64 p.1, .int .i64 p.2]) ∧ w' = w := by
  unfold maxLen at hm
  have hne : ((l.length : Int) == 0) = false := beq_eq_false_iff_ne.2 (by omega)
  have e1 := i64_and224 c (by omega) (by omega)
  have f1 := i64_and240 c (by omega) (by omega)
  have f2 := i64_and248 c (by omega) (by omega)
  have g1 : (c / 32 * 32 == 192) = true := beq_iff_eq.2 (by omega)
  have e2 := i64_and31 c (by omega) (by omega)
  rcases hbd1 with h | ⟨h11, h11'⟩
  · subst h
    have hp := hno (by omega)
    subst hp
    clear hno hyes
    go_enter Tryd.func17, Tryd.ntmps17
    go_wp2
    refine wp_loop_rounds 2 ?_
    rw [rounds_succ]
    go_wp2_with (go_at_call 26; refine (tail_any _ _ _ _ _ (by omega) (by omega) (by unfold maxLen; omega) hb).mono ?_; rintro e w' ⟨rfl, rfl⟩)
    go_ret2
    exact ⟨rfl, rfl⟩
  have j1 := i64_join 6 ((c % 32) * 64) t1 (by omega) (by omega) (by omega) (by omega) (by omega) (by omega)
  have hp : Hid _ := hyes (by omega)
  clear hno hyes
  go_enter Tryd.func17, Tryd.ntmps17
  go_wp2
  refine wp_loop_rounds 2 ?_
  rw [rounds_succ]
  go_wp2_with (go_at_call 26; refine (tail_any _ _ _ _ _ (by omega) (by omega) (by unfold maxLen; omega) hb).mono ?_; rintro e w' ⟨rfl, rfl⟩)
  rw [rounds_succ]
  go_wp2
  all_goals
    go_ret2
    refine ⟨ret_pair ?_, rfl⟩
    rw [hp.out]
    first | exact fin_no (by unfold wid; repeat' split; all_goals omega) | exact fin_yes (by unfold wid; repeat' split; all_goals omega)

set_option maxHeartbeats 1000000 in
theorem rdec_three (b o cap : Nat) (l : List Int) (c t1 t2 : Int) (w : World) (hl : 1 ≤ l.length) (hc : l.length ≤ cap) (hm : cap ≤ maxLen) (hb : Bts w (some ⟨b, o, none⟩) l) (h0 : w.cell? ⟨b, o, none⟩ = some (.int .u8 c)) (hc0 : 224 ≤ c) (hc1 : c < 240)
    (p : Int × Int) (ht1 : tlv l 1 = t1) (hbd1 : t1 = -1 ∨ (0 ≤ t1 ∧ t1 < 64)) (ht2 : tlv l 2 = t2) (hbd2 : t2 = -1 ∨ (0 ≤ t2 ∧ t2 < 64)) (hno : ¬ (0 ≤ t1 ∧ 0 ≤ t2) → p = (-1, 0)) (hyes : 0 ≤ t1 ∧ 0 ≤ t2 → p = fin ((c % 16 * 64 + t1) * 64 + t2) 3) :
    Calls Tryd.prog 17 #[.slice (some ⟨b, o, none⟩) l.length cap] w fun e w' => e = .returned (.tuple #[.int .i64 p.1, .int .i64 p.2]) ∧ w' = w := by
  unfold maxLen at hm
  have hne : ((l.length : Int) == 0) = false := beq_eq_false_iff_ne.2 (by omega)
  have e1 := i64_and224 c (by omega) (by omega)
  have f1 := i64_and240 c (by omega) (by omega)
  have f2 := i64_and248 c (by omega) (by omega)
  have g1 : (c / 32 * 32 == 192) = false := beq_eq_false_iff_ne.2 (by omega)
  have g2 : (c / 16 * 16 == 224) = true := beq_iff_eq.2 (by omega)
  have e2 := i64_and15 c (by omega) (by omega)
  rcases hbd1 with h | ⟨h11, h11'⟩
  · subst h
    have hp := hno (by omega)
    subst hp
    clear hno hyes
    go_enter Tryd.func17, Tryd.ntmps17
    go_wp2
    refine wp_loop_rounds 3 ?_
    rw [rounds_succ]
    go_wp2_with (go_at_call 26; refine (tail_any _ _ _ _ _ (by omega) (by omega) (by unfold maxLen; omega) hb).mono ?_; rintro e w' ⟨rfl, rfl⟩)
    go_ret2
    exact ⟨rfl, rfl⟩
  have j1 := i64_join 6 ((c % 16) * 64) t1 (by omega) (by omega) (by omega) (by omega) (by omega) (by omega)
  rcases hbd2 with h | ⟨h12, h12'⟩
  · subst h
    have hp := hno (by omega)
    subst hp
    clear hno hyes
    go_enter Tryd.func17, Tryd.ntmps17
    go_wp2
    refine wp_loop_rounds 3 ?_
    rw [rounds_succ]
    go_wp2_with (go_at_call 26; refine (tail_any _ _ _ _ _ (by omega) (by omega) (by unfold maxLen; omega) hb).mono ?_; rintro e w' ⟨rfl, rfl⟩)
    rw [rounds_succ]
    go_wp2_with (go_at_call 26; refine (tail_any _ _ _ _ _ (by omega) (by omega) (by unfold maxLen; omega) hb).mono ?_; rintro e w' ⟨rfl, rfl⟩)
    go_ret2
    exact ⟨rfl, rfl⟩
  have j2 := i64_join 6 ((c % 16 * 64 + t1) * 64) t2 (by omega) (by omega) (by omega) (by omega) (by omega) (by omega)
  have hp : Hid _ := hyes (by omega)
  clear hno hyes
  go_enter Tryd.func17, Tryd.ntmps17
  go_wp2
  refine wp_loop_rounds 3 ?_
  rw [rounds_succ]
  go_wp2_with (go_at_call 26; refine (tail_any _ _ _ _ _ (by omega) (by omega) (by unfold maxLen; omega) hb).mono ?_; rintro e w' ⟨rfl, rfl⟩)
  rw [rounds_succ]
  go_wp2_with (go_at_call 26; refine (tail_any _ _ _ _ _ (by omega) (by omega) (by unfold maxLen; omega) hb).mono ?_; rintro e w' ⟨rfl, rfl⟩)
  rw [rounds_succ]
  go_wp2
  all_goals
    go_ret2
    refine ⟨ret_pair ?_, rfl⟩
    rw [hp.out]
    first | exact fin_no (by unfold wid; repeat' split; all_goals omega) | exact fin_yes (by unfold wid; repeat' split; all_goals omega)

set_option maxHeartbeats 1000000 in
theorem rdec_four (b o cap : Nat) (l : List Int) (c t1 t2 t3 : Int) (w : World) (hl : 1 ≤ l.length) (hc : l.length ≤ cap) (hm : cap ≤ maxLen) (hb : Bts w (some ⟨b, o, none⟩) l) (h0 : w.cell? ⟨b, o, none⟩ = some (.int .u8 c)) (hc0 : 240 ≤ c) (hc1 : c < 248)
    (p : Int × Int) (ht1 : tlv l 1 = t1) (hbd1 : t1 = -1 ∨ (0 ≤ t1 ∧ t1 < 64)) (ht2 : tlv l 2 = t2) (hbd2 : t2 = -1 ∨ (0 ≤ t2 ∧ t2 < 64)) (ht3 : tlv l 3 = t3) (hbd3 : t3 = -1 ∨ (0 ≤ t3 ∧ t3 < 64)) (hno : ¬ (0 ≤ t1 ∧ 0 ≤ t2 ∧ 0 ≤ t3) → p = (-1, 0)) (hyes : 0 ≤ t1 ∧ 0 ≤ t2 ∧ 0 ≤ t3 → p = fin (((c % 8 * 64 + t1) * 64 + t2) * 64 + t3) 4) :
    Calls Tryd.prog 17 #[.slice (some ⟨b, o, none⟩) l.length cap] w fun e w' => e = .returned (.tuple #[.int .i64 p.1, .int .i64 p.2]) ∧ w' = w := by
  unfold maxLen at hm
  have hne : ((l.length : Int) == 0) = false := beq_eq_false_iff_ne.2 (by omega)
  have e1 := i64_and224 c (by omega) (by omega)
  have f1 := i64_and240 c (by omega) (by omega)
  have f2 := i64_and248 c (by omega) (by omega)
  have g1 : (c / 32 * 32 == 192) = false := beq_eq_false_iff_ne.2 (by omega)
  have g2 : (c / 16 * 16 == 224) = false := beq_eq_false_iff_ne.2 (by omega)
  have g3 : (c / 8 * 8 == 240) = true := beq_iff_eq.2 (by omega)
  have e2 := i64_and7 c (by omega) (by omega)
  rcases hbd1 with h | ⟨h11, h11'⟩
  · subst h
    have hp := hno (by omega)
    subst hp
    clear hno hyes
    go_enter Tryd.func17, Tryd.ntmps17
    go_wp2
    refine wp_loop_rounds 4 ?_
    rw [rounds_succ]
    go_wp2_with (go_at_call 26; refine (tail_any _ _ _ _ _ (by omega) (by omega) (by unfold maxLen; omega) hb).mono ?_; rintro e w' ⟨rfl, rfl⟩)
    go_ret2
    exact ⟨rfl, rfl⟩
  have j1 := i64_join 6 ((c % 8) * 64) t1 (by omega) (by omega) (by omega) (by omega) (by omega) (by omega)
  rcases hbd2 with h | ⟨h12, h12'⟩
  · subst h
    have hp := hno (by omega)
    subst hp
    clear hno hyes
    go_enter Tryd.func17, Tryd.ntmps17
    go_wp2
    refine wp_loop_rounds 4 ?_
    rw [rounds_succ]
    go_wp2_with (go_at_call 26; refine (tail_any _ _ _ _ _ (by omega) (by omega) (by unfold maxLen; omega) hb).mono ?_; rintro e w' ⟨rfl, rfl⟩)
    rw [rounds_succ]
    go_wp2_with (go_at_call 26; refine (tail_any _ _ _ _ _ (by omega) (by omega) (by unfold maxLen; omega) hb).mono ?_; rintro e w' ⟨rfl, rfl⟩)
    go_ret2
    exact ⟨rfl, rfl⟩
  have j2 := i64_join 6 ((c % 8 * 64 + t1) * 64) t2 (by omega) (by omega) (by omega) (by omega) (by omega) (by omega)
  rcases hbd3 with h | ⟨h13, h13'⟩
  · subst h
    have hp := hno (by omega)
    subst hp
    clear hno hyes
    go_enter Tryd.func17, Tryd.ntmps17
    go_wp2
    refine wp_loop_rounds 4 ?_
    rw [rounds_succ]
    go_wp2_with (go_at_call 26; refine (tail_any _ _ _ _ _ (by omega) (by omega) (by unfold maxLen; omega) hb).mono ?_; rintro e w' ⟨rfl, rfl⟩)
    rw [rounds_succ]
    go_wp2_with (go_at_call 26; refine (tail_any _ _ _ _ _ (by omega) (by omega) (by unfold maxLen; omega) hb).mono ?_; rintro e w' ⟨rfl, rfl⟩)
    rw [rounds_succ]
    go_wp2_with (go_at_call 26; refine (tail_any _ _ _ _ _ (by omega) (by omega) (by unfold maxLen; omega) hb).mono ?_; rintro e w' ⟨rfl, rfl⟩)
    go_ret2
    exact ⟨rfl, rfl⟩
  have j3 := i64_join 6 (((c % 8 * 64 + t1) * 64 + t2) * 64) t3 (by omega) (by omega) (by omega) (by omega) (by omega) (by omega)
  have hp : Hid _ := hyes (by omega)
  clear hno hyes
  go_enter Tryd.func17, Tryd.ntmps17
  go_wp2
  refine wp_loop_rounds 4 ?_
  rw [rounds_succ]
  go_wp2_with (go_at_call 26; refine (tail_any _ _ _ _ _ (by omega) (by omega) (by unfold maxLen; omega) hb).mono ?_; rintro e w' ⟨rfl, rfl⟩)
  rw [rounds_succ]
  go_wp2_with (go_at_call 26; refine (tail_any _ _ _ _ _ (by omega) (by omega) (by unfold maxLen; omega) hb).mono ?_; rintro e w' ⟨rfl, rfl⟩)
  rw [rounds_succ]
  go_wp2_with (go_at_call 26; refine (tail_any _ _ _ _ _ (by omega) (by omega) (by unfold maxLen; omega) hb).mono ?_; rintro e w' ⟨rfl, rfl⟩)
  rw [rounds_succ]
  go_wp2
  all_goals
    go_ret2
    refine ⟨ret_pair ?_, rfl⟩
    rw [hp.out]
    first | exact fin_no (by unfold wid; repeat' split; all_goals omega) | exact fin_yes (by unfold wid; repeat' split; all_goals omega)

set_option maxHeartbeats 400000 in
theorem rdec_empty (a : Option Addr) (cap : Nat) (w : World) :
    Calls Tryd.prog 17 #[.slice a 0 cap] w fun e w' => e = .returned (.tuple #[.int .i64 (-1), .int .i64 0]) ∧ w' = w := by
  go_enter Tryd.func17, Tryd.ntmps17
  go_wp2
  go_ret2
  exact ⟨rfl, rfl⟩

set_option maxHeartbeats 400000 in
theorem rdec_one (b o len cap : Nat) (c : Int) (w : World) (hl : 1 ≤ len) (h0 : w.cell? ⟨b, o, none⟩ = some (.int .u8 c)) (hc0 : 0 ≤ c) (hc1 : c < 128) :
    Calls Tryd.prog 17 #[.slice (some ⟨b, o, none⟩) len cap] w fun e w' => e = .returned (.tuple #[.int .i64 c, .int .i64 1]) ∧ w' = w := by
  have hne : ((len : Int) == 0) = false := beq_eq_false_iff_ne.2 (by omega)
  go_enter Tryd.func17, Tryd.ntmps17
  go_wp2
  go_ret2
  exact ⟨rfl, rfl⟩

set_option maxHeartbeats 400000 in
theorem rdec_none (b o len cap : Nat) (c : Int) (w : World) (hl : 1 ≤ len) (h0 : w.cell? ⟨b, o, none⟩ = some (.int .u8 c)) (hc0 : 128 ≤ c) (hc1 : c < 256) (hn : c < 192 ∨ 248 ≤ c) :
    Calls Tryd.prog 17 #[.slice (some ⟨b, o, none⟩) len cap] w fun e w' => e = .returned (.tuple #[.int .i64 (-1), .int .i64 0]) ∧ w' = w := by
  have hne : ((len : Int) == 0) = false := beq_eq_false_iff_ne.2 (by omega)
  have e1 := i64_and224 c (by omega) (by omega)
  have f1 := i64_and240 c (by omega) (by omega)
  have f2 := i64_and248 c (by omega) (by omega)
  have g1 : (c / 32 * 32 == 192) = false := beq_eq_false_iff_ne.2 (by omega)
  have g2 : (c / 16 * 16 == 224) = false := beq_eq_false_iff_ne.2 (by omega)
  have g3 : (c / 8 * 8 == 240) = false := beq_eq_false_iff_ne.2 (by omega)
  go_enter Tryd.func17, Tryd.ntmps17
  go_wp2
  go_ret2
  exact ⟨rfl, rfl⟩

theorem rdecode_any (a : Option Addr) (l : List Int) (cap : Nat) (w : World) (hc : l.length ≤ cap) (hm : cap ≤ maxLen) (hb : Bts w a l) :
    Calls Tryd.prog 17 #[.slice a l.length cap] w fun e w' => e = .returned (.tuple #[.int .i64 (dec l).1, .int .i64 (dec l).2]) ∧ w' = w := by
  have hb' := hb
  obtain ⟨hby, rfl | ⟨b, o, rfl, hcell⟩⟩ := hb
  · exact rdec_empty a cap w
  by_cases hl : l.length = 0
  · have : l = [] := List.eq_nil_of_length_eq_zero hl
    subst this
    exact rdec_empty _ cap w
  have h0 := hcell 0 (by omega)
  have b0 := hby 0
  by_cases c0 : l.getD 0 0 < 128
  · have hd : dec l = (l.getD 0 0, 1) := by unfold dec; rw [if_neg hl, if_pos c0]
    rw [hd]
    exact rdec_one b o l.length cap _ w (by omega) h0 b0.1 c0
  by_cases c1 : l.getD 0 0 < 192
  · have hd : dec l = (-1, 0) := by unfold dec; rw [if_neg hl, if_neg c0, if_pos c1]
    rw [hd]
    exact rdec_none b o l.length cap _ w (by omega) h0 (by omega) b0.2 (.inl c1)
  by_cases c2 : l.getD 0 0 < 224
  · have hd := dec_2 hl (by omega) c2
    exact rdec_two b o cap l _ _ w (by omega) hc hm hb' h0 (by omega) c2 (dec l) rfl (tlv_bd l 1) (fun h => by rw [hd, if_neg h]) (fun h => by rw [hd, if_pos h])
  by_cases c3 : l.getD 0 0 < 240
  · have hd := dec_3 hl (by omega) c3
    exact rdec_three b o cap l _ _ _ w (by omega) hc hm hb' h0 (by omega) c3 (dec l) rfl (tlv_bd l 1) rfl (tlv_bd l 2) (fun h => by rw [hd, if_neg h]) (fun h => by rw [hd, if_pos h])
  by_cases c4 : l.getD 0 0 < 248
  · have hd := dec_4 hl (by omega) c4
    exact rdec_four b o cap l _ _ _ _ w (by omega) hc hm hb' h0 (by omega) c4 (dec l) rfl (tlv_bd l 1) rfl (tlv_bd l 2) rfl (tlv_bd l 3) (fun h => by rw [hd, if_neg h]) (fun h => by rw [hd, if_pos h])
  have hd : dec l = (-1, 0) := by unfold dec; rw [if_neg hl, if_neg c0, if_neg c1, if_neg c2, if_neg c3, if_neg c4]
  rw [hd]
  exact rdec_none b o l.length cap _ w (by omega) h0 (by omega) b0.2 (.inr (by omega))
end Go.Proofs.YtjcgnbmpnaapdaaDoor
namespace Go.Proofs.YtjcgnbmpnaapdaaDoor
open Go.RowKit
set_option linter.unusedVariables false

def rgt : Nat → List Int → Nat × Bool
  | 0, _ => (0, true)
  | n + 1, l => if l.length = 0 then (0, true) else if (dec l).2 = 0 ∨ isChar (dec l).1 = false then (0, false)
      else ((dec l).2.toNat + (rgt n (l.drop (dec l).2.toNat)).1, (rgt n (l.drop (dec l).2.toNat)).2)
theorem rgt_end (n : Nat) (l : List Int) (h : l.length = 0) : rgt n l = (0, true) := by
  cases n <;> simp [rgt, h]
theorem rgt_bad (n : Nat) (l : List Int) (h0 : ¬ l.length = 0) (h : (dec l).2 = 0 ∨ isChar (dec l).1 = false) : rgt (n + 1) l = (0, false) := by
  simp only [rgt]; rw [if_neg h0, if_pos h]
theorem rgt_step (n : Nat) (l : List Int) (h0 : ¬ l.length = 0) (h : ¬ ((dec l).2 = 0 ∨ isChar (dec l).1 = false)) :
    rgt (n + 1) l = ((dec l).2.toNat + (rgt n (l.drop (dec l).2.toNat)).1, (rgt n (l.drop (dec l).2.toNat)).2) := by
  simp only [rgt]; rw [if_neg h0, if_neg h]
theorem rdecode_at (b o k : Nat) (l : List Int) (len cap : Nat) (w : World) (hl : l.length - k = len) (hc : l.length ≤ cap) (hm : cap ≤ maxLen) (hb : Bts w (some ⟨b, o, none⟩) l) :
    Calls Tryd.prog 17 #[.slice (some ⟨b, o + k, none⟩) len (cap - k)] w fun e w' => e = .returned (.tuple #[.int .i64 (dec (l.drop k)).1, .int .i64 (dec (l.drop k)).2]) ∧ w' = w := by
  have := rdecode_any _ _ (cap - k) w (by simp; omega) (by omega) (hb.drop k)
  rw [List.length_drop, hl] at this
  exact this

theorem ret_ib {a b : Int} {p q : Bool} (h : a = b) (g : p = q) : Ending.returned (.tuple #[.int .i64 a, .bool p]) = .returned (.tuple #[.int .i64 b, .bool q]) := by rw [h, g]

set_option maxHeartbeats 400000 in
theorem rright_some (b o cap : Nat) (l : List Int) (w : World) (hc : l.length ≤ cap) (hm : cap ≤ maxLen) (hb : Bts w (some ⟨b, o, none⟩) l) :
    Calls Tryd.prog 9 #[.slice (some ⟨b, o, none⟩) l.length cap] w fun e w' => e = .returned (.tuple #[.int .i64 (rgt l.length l).1, .bool (rgt l.length l).2]) ∧ w' = w := by
  have hm' := hm
  unfold maxLen at hm'
  go_enter Tryd.func9, Tryd.ntmps9
  go_wp2
  go_loop [4] (fun at_ => ∃ k n : Nat, k ≤ l.length ∧ l.length - k ≤ n ∧ at_ = .int .i64 k ∧ k + (rgt n (l.drop k)).1 = (rgt l.length l).1 ∧ (rgt n (l.drop k)).2 = (rgt l.length l).2) (fun i => l.length - (intOf i).toNat)
  case atStart => exact ⟨0, l.length, Nat.zero_le _, Nat.le_refl _, rfl, by simp, by simp⟩
  case round =>
    obtain ⟨k, n, hk, hn, rfl, r1, r2⟩ := hrel
    have R1 : Hid _ := r1
    have R2 : Hid _ := r2
    clear r1 r2
    by_cases hlt : k < l.length
    · have hcp : ¬ cap = k := by omega
      have hd0 : ¬ (l.drop k).length = 0 := by simp; omega
      have hdb := dec_bd (l.drop k)
      obtain ⟨n, rfl⟩ : ∃ m, n = m + 1 := ⟨n - 1, by omega⟩
      by_cases hz : (dec (l.drop k)).2 = 0
      · have hs : Hid _ := rgt_bad n _ hd0 (.inl hz)
        go_wp2_with (go_at_call 17; refine (rdecode_at b o k l _ cap _ rfl hc hm hb).mono ?_; rintro e w' ⟨rfl, rfl⟩)
        go_ret2
        refine ⟨ret_ib ?_ ?_, rfl⟩
        · rw [← R1.out, hs.out]; simp
        · rw [← R2.out, hs.out]
      · have hzb : ((dec (l.drop k)).2 == 0) = false := beq_eq_false_iff_ne.2 hz
        have hdl : (dec (l.drop k)).2 ≤ l.length - k := by
          rcases hdb with h | h
          · exact absurd h hz
          · have := h.2.2; simp at this; omega
        have hd1 : 1 ≤ (dec (l.drop k)).2 := by omega
        have hd4 : (dec (l.drop k)).2 ≤ 4 := by omega
        clear hdb
        by_cases hch : isChar (dec (l.drop k)).1 = false
        · have hs : Hid _ := rgt_bad n _ hd0 (.inr hch)
          go_wp2_with (first | (go_at_call 17; refine (rdecode_at b o k l _ cap _ rfl hc hm hb).mono ?_; rintro e w' ⟨rfl, rfl⟩) | (go_at_call 18; refine (rchar_any _ _).mono ?_; rintro e w' ⟨rfl, rfl⟩))
          go_ret2
          refine ⟨ret_ib ?_ ?_, rfl⟩
          · rw [← R1.out, hs.out]; simp
          · rw [← R2.out, hs.out]
        · have hs : Hid _ := rgt_step n _ hd0 (fun h => h.elim hz hch)
          have hch' : isChar (dec (l.drop k)).1 = true := by simpa using hch
          clear hch hz
          go_wp2_with (first | (go_at_call 17; refine (rdecode_at b o k l _ cap _ rfl hc hm hb).mono ?_; rintro e w' ⟨rfl, rfl⟩) | (go_at_call 18; refine (rchar_any _ _).mono ?_; rintro e w' ⟨rfl, rfl⟩))
          go_round
          case rel =>
            refine ⟨k + (dec (l.drop k)).2.toNat, n, by omega, by omega, by rw [Int.natCast_add, Int.toNat_of_nonneg (by omega)], ?_, ?_⟩
            · rw [← R1.out, hs.out, List.drop_drop]; simp; omega
            · rw [← R2.out, hs.out, List.drop_drop]
          case measure => simp [intOf]; omega
    · have hs : Hid _ := rgt_end n (l.drop k) (by simp; omega)
      go_wp2
      go_ret2
      refine ⟨ret_ib ?_ ?_, rfl⟩
      · rw [← R1.out, hs.out]; simp
      · rw [← R2.out, hs.out]

set_option maxHeartbeats 400000 in
theorem rright_none (a : Option Addr) (cap : Nat) (w : World) :
    Calls Tryd.prog 9 #[.slice a 0 cap] w fun e w' => e = .returned (.tuple #[.int .i64 0, .bool true]) ∧ w' = w := by
  go_enter Tryd.func9, Tryd.ntmps9
  go_wp2
  refine wp_loop_rounds 1 ?_
  rw [rounds_succ]
  go_wp2
  go_ret2
  exact ⟨rfl, rfl⟩

theorem rright_any (a : Option Addr) (l : List Int) (cap : Nat) (w : World) (hc : l.length ≤ cap) (hm : cap ≤ maxLen) (hb : Bts w a l) :
    Calls Tryd.prog 9 #[.slice a l.length cap] w fun e w' => e = .returned (.tuple #[.int .i64 (rgt l.length l).1, .bool (rgt l.length l).2]) ∧ w' = w := by
  rcases hb.2 with rfl | ⟨b, o, rfl, hcell⟩
  · exact rright_none a cap w
  · exact rright_some b o cap l w hc hm hb

end Go.Proofs.YtjcgnbmpnaapdaaDoor
