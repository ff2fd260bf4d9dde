/- Joined: HK7, HK8, HK9, HK10, HK10a, HK10b. -/
import Derived.Test.YtgaegajcejpmdaaGreatDoorHJ10
import Derived.Test.YtgaegajcejpmdaaGreatDoorHK6
import Derived.Test.YtgaegajcejpmdaaGreatDoorHJ9
import Derived.Test.YtgaegajcejpmdaaGreatDoorHDcD8
import Derived.Lib.ParseIntBMem
import Derived.Test.YtgaegajcejpmdaaGreatDoorHJ6
import Derived.Laws.Tables
import Derived.Laws.CopyRow
import Derived.Deep.MidRow
import Derived.Deep.RegionHeld3
import Derived.Deep.DeepCutAuto
namespace Go.Proofs.YtgaegajcejpmdaaGreatDoor
open Go.RowKit
set_option linter.unusedVariables false
set_option linter.unusedSimpArgs false

theorem sb_size (l : List Int) : (Dc.sb l).size = l.length := by simp [Dc.sb, ByteArray.size]
theorem tx_size {n : Dc.Nm} (h0 : n.2.2 = 0) (hl : n.2.1.length ≤ 4096) : (Dc.sb (Dc.txS n)).size ≤ 4097 := by
  rw [sb_size, tx_whole h0]
  cases n.1 <;> simp <;> omega
theorem pi8_ok {n : Dc.Nm} (h : Dc.CN n) (h0 : n.2.2 = 0) (hl : n.2.1.length ≤ 4096) (hr : -128 ≤ Dc.nv n 0 ∧ Dc.nv n 0 ≤ 127) (w : World) : Calls Tryz.prog 110 #[.string (Dc.sb (Dc.txS n)), .int .i64 10, .int .i64 8] w fun e w' => e = .returned (.tuple #[.int .i64 (Dc.nv n 0), .nilIface]) ∧ Below w.heap.size w w' := by
  refine (Tryz.strconv_ParseInt_10_at8_ok _ (by have := tx_size h0 hl; omega) _ ((pi_tx h h0 8 (by decide) 128 (by decide) (by decide) (by decide)).1 (by omega)) w).mono ?_
  rintro e w' ⟨rfl, rfl | ⟨t, rfl⟩⟩
  · exact ⟨rfl, Below.refl _ _⟩
  · exact ⟨rfl, Lib.bytesWorld_below _ _ _⟩
theorem pi8_no {n : Dc.Nm} (h : Dc.CN n) (h0 : n.2.2 = 0) (hl : n.2.1.length ≤ 4096) (hr : ¬ (-128 ≤ Dc.nv n 0 ∧ Dc.nv n 0 ≤ 127)) (w : World) (hw : Lw w) : Calls Tryz.prog 110 #[.string (Dc.sb (Dc.txS n)), .int .i64 10, .int .i64 8] w fun e w' => ∃ x N, e = .returned (.tuple #[.int .i64 x, .iface 179 (.pointer (some ⟨N, 0, none⟩))]) ∧ Below w.heap.size w w' := by
  obtain ⟨tp, p, hv⟩ := hw.er
  refine (Tryz.strconv_ParseInt_10_at8_range_var _ (by have := tx_size h0 hl; omega) ((pi_tx h h0 8 (by decide) 128 (by decide) (by decide) (by decide)).2 (by omega)) tp p w hv).mono ?_
  rintro e w' ⟨N, rfl, _, _, hb⟩
  exact ⟨_, N, rfl, hb⟩
theorem pu8_ok {n : Dc.Nm} (h : Dc.CN n) (h0 : n.2.2 = 0) (hl : n.2.1.length ≤ 4096) (hr : 0 ≤ Dc.nv n 0 ∧ Dc.nv n 0 ≤ 255) (w : World) : Calls Tryz.prog 112 #[.string (Dc.sb (Dc.txS n)), .int .i64 10, .int .i64 8] w fun e w' => ∃ x, e = .returned (.tuple #[.int .u64 x, .nilIface]) ∧ Below w.heap.size w w' := by
  have hp := pu_tx h h0 8 (by decide)
  rw [if_neg (by omega), if_pos (by show Dc.nv n 0 ≤ ((255 : Nat) : Int); omega)] at hp
  refine (Tryz.strconv_ParseUint_10_at8_ok _ (by have := tx_size h0 hl; omega) _ hp w).mono ?_
  rintro e w' ⟨rfl, rfl | rfl⟩
  · exact ⟨_, rfl, Below.refl _ _⟩
  · exact ⟨_, rfl, Lib.bytesWorld_below _ _ _⟩
theorem pu8_no {n : Dc.Nm} (h : Dc.CN n) (h0 : n.2.2 = 0) (hl : n.2.1.length ≤ 4096) (hr : ¬ (0 ≤ Dc.nv n 0 ∧ Dc.nv n 0 ≤ 255)) (w : World) (hw : Lw w) : Calls Tryz.prog 112 #[.string (Dc.sb (Dc.txS n)), .int .i64 10, .int .i64 8] w fun e w' => ∃ x N, e = .returned (.tuple #[.int .u64 x, .iface 179 (.pointer (some ⟨N, 0, none⟩))]) ∧ Below w.heap.size w w' := by
  obtain ⟨tp, p, hv⟩ := hw.er
  obtain ⟨tq, q, hv2⟩ := hw.es
  have hp := pu_tx h h0 8 (by decide)
  by_cases hn : Dc.nv n 0 < 0
  · rw [if_pos hn] at hp
    refine (Tryz.strconv_ParseUint_10_at8_syntax_var _ (by have := tx_size h0 hl; omega) hp tq q w hv2).mono ?_
    rintro e w' ⟨N, rfl, _, _, hb⟩
    exact ⟨_, N, rfl, hb⟩
  · rw [if_neg hn, if_neg (by show ¬ (Dc.nv n 0 ≤ ((255 : Nat) : Int)); omega)] at hp
    refine (Tryz.strconv_ParseUint_10_at8_range_var _ (by have := tx_size h0 hl; omega) hp tp p w hv).mono ?_
    rintro e w' ⟨N, rfl, _, _, hb⟩
    exact ⟨_, N, rfl, hb⟩
theorem pi16_ok {n : Dc.Nm} (h : Dc.CN n) (h0 : n.2.2 = 0) (hl : n.2.1.length ≤ 4096) (hr : -32768 ≤ Dc.nv n 0 ∧ Dc.nv n 0 ≤ 32767) (w : World) : Calls Tryz.prog 110 #[.string (Dc.sb (Dc.txS n)), .int .i64 10, .int .i64 16] w fun e w' => e = .returned (.tuple #[.int .i64 (Dc.nv n 0), .nilIface]) ∧ Below w.heap.size w w' := by
  refine (Tryz.strconv_ParseInt_10_at16_ok _ (by have := tx_size h0 hl; omega) _ ((pi_tx h h0 16 (by decide) 32768 (by decide) (by decide) (by decide)).1 (by omega)) w).mono ?_
  rintro e w' ⟨rfl, rfl | ⟨t, rfl⟩⟩
  · exact ⟨rfl, Below.refl _ _⟩
  · exact ⟨rfl, Lib.bytesWorld_below _ _ _⟩
theorem pi16_no {n : Dc.Nm} (h : Dc.CN n) (h0 : n.2.2 = 0) (hl : n.2.1.length ≤ 4096) (hr : ¬ (-32768 ≤ Dc.nv n 0 ∧ Dc.nv n 0 ≤ 32767)) (w : World) (hw : Lw w) : Calls Tryz.prog 110 #[.string (Dc.sb (Dc.txS n)), .int .i64 10, .int .i64 16] w fun e w' => ∃ x N, e = .returned (.tuple #[.int .i64 x, .iface 179 (.pointer (some ⟨N, 0, none⟩))]) ∧ Below w.heap.size w w' := by
  obtain ⟨tp, p, hv⟩ := hw.er
  refine (Tryz.strconv_ParseInt_10_at16_range_var _ (by have := tx_size h0 hl; omega) ((pi_tx h h0 16 (by decide) 32768 (by decide) (by decide) (by decide)).2 (by omega)) tp p w hv).mono ?_
  rintro e w' ⟨N, rfl, _, _, hb⟩
  exact ⟨_, N, rfl, hb⟩
theorem pu16_ok {n : Dc.Nm} (h : Dc.CN n) (h0 : n.2.2 = 0) (hl : n.2.1.length ≤ 4096) (hr : 0 ≤ Dc.nv n 0 ∧ Dc.nv n 0 ≤ 65535) (w : World) : Calls Tryz.prog 112 #[.string (Dc.sb (Dc.txS n)), .int .i64 10, .int .i64 16] w fun e w' => ∃ x, e = .returned (.tuple #[.int .u64 x, .nilIface]) ∧ Below w.heap.size w w' := by
  have hp := pu_tx h h0 16 (by decide)
  rw [if_neg (by omega), if_pos (by show Dc.nv n 0 ≤ ((65535 : Nat) : Int); omega)] at hp
  refine (Tryz.strconv_ParseUint_10_at16_ok _ (by have := tx_size h0 hl; omega) _ hp w).mono ?_
  rintro e w' ⟨rfl, rfl | rfl⟩
  · exact ⟨_, rfl, Below.refl _ _⟩
  · exact ⟨_, rfl, Lib.bytesWorld_below _ _ _⟩
theorem pu16_no {n : Dc.Nm} (h : Dc.CN n) (h0 : n.2.2 = 0) (hl : n.2.1.length ≤ 4096) (hr : ¬ (0 ≤ Dc.nv n 0 ∧ Dc.nv n 0 ≤ 65535)) (w : World) (hw : Lw w) : Calls Tryz.prog 112 #[.string (Dc.sb (Dc.txS n)), .int .i64 10, .int .i64 16] w fun e w' => ∃ x N, e = .returned (.tuple #[.int .u64 x, .iface 179 (.pointer (some ⟨N, 0, none⟩))]) ∧ Below w.heap.size w w' := by
  obtain ⟨tp, p, hv⟩ := hw.er
  obtain ⟨tq, q, hv2⟩ := hw.es
  have hp := pu_tx h h0 16 (by decide)
  by_cases hn : Dc.nv n 0 < 0
  · rw [if_pos hn] at hp
    refine (Tryz.strconv_ParseUint_10_at16_syntax_var _ (by have := tx_size h0 hl; omega) hp tq q w hv2).mono ?_
    rintro e w' ⟨N, rfl, _, _, hb⟩
    exact ⟨_, N, rfl, hb⟩
  · rw [if_neg hn, if_neg (by show ¬ (Dc.nv n 0 ≤ ((65535 : Nat) : Int)); omega)] at hp
    refine (Tryz.strconv_ParseUint_10_at16_range_var _ (by have := tx_size h0 hl; omega) hp tp p w hv).mono ?_
    rintro e w' ⟨N, rfl, _, _, hb⟩
    exact ⟨_, N, rfl, hb⟩
theorem pi32_ok {n : Dc.Nm} (h : Dc.CN n) (h0 : n.2.2 = 0) (hl : n.2.1.length ≤ 4096) (hr : -2147483648 ≤ Dc.nv n 0 ∧ Dc.nv n 0 ≤ 2147483647) (w : World) : Calls Tryz.prog 110 #[.string (Dc.sb (Dc.txS n)), .int .i64 10, .int .i64 32] w fun e w' => e = .returned (.tuple #[.int .i64 (Dc.nv n 0), .nilIface]) ∧ Below w.heap.size w w' := by
  refine (Tryz.strconv_ParseInt_10_at32_ok _ (by have := tx_size h0 hl; omega) _ ((pi_tx h h0 32 (by decide) 2147483648 (by decide) (by decide) (by decide)).1 (by omega)) w).mono ?_
  rintro e w' ⟨rfl, rfl | ⟨t, rfl⟩⟩
  · exact ⟨rfl, Below.refl _ _⟩
  · exact ⟨rfl, Lib.bytesWorld_below _ _ _⟩
theorem pi32_no {n : Dc.Nm} (h : Dc.CN n) (h0 : n.2.2 = 0) (hl : n.2.1.length ≤ 4096) (hr : ¬ (-2147483648 ≤ Dc.nv n 0 ∧ Dc.nv n 0 ≤ 2147483647)) (w : World) (hw : Lw w) : Calls Tryz.prog 110 #[.string (Dc.sb (Dc.txS n)), .int .i64 10, .int .i64 32] w fun e w' => ∃ x N, e = .returned (.tuple #[.int .i64 x, .iface 179 (.pointer (some ⟨N, 0, none⟩))]) ∧ Below w.heap.size w w' := by
  obtain ⟨tp, p, hv⟩ := hw.er
  refine (Tryz.strconv_ParseInt_10_at32_range_var _ (by have := tx_size h0 hl; omega) ((pi_tx h h0 32 (by decide) 2147483648 (by decide) (by decide) (by decide)).2 (by omega)) tp p w hv).mono ?_
  rintro e w' ⟨N, rfl, _, _, hb⟩
  exact ⟨_, N, rfl, hb⟩
theorem pu32_ok {n : Dc.Nm} (h : Dc.CN n) (h0 : n.2.2 = 0) (hl : n.2.1.length ≤ 4096) (hr : 0 ≤ Dc.nv n 0 ∧ Dc.nv n 0 ≤ 4294967295) (w : World) : Calls Tryz.prog 112 #[.string (Dc.sb (Dc.txS n)), .int .i64 10, .int .i64 32] w fun e w' => ∃ x, e = .returned (.tuple #[.int .u64 x, .nilIface]) ∧ Below w.heap.size w w' := by
  have hp := pu_tx h h0 32 (by decide)
  rw [if_neg (by omega), if_pos (by show Dc.nv n 0 ≤ ((4294967295 : Nat) : Int); omega)] at hp
  refine (Tryz.strconv_ParseUint_10_at32_ok _ (by have := tx_size h0 hl; omega) _ hp w).mono ?_
  rintro e w' ⟨rfl, rfl | rfl⟩
  · exact ⟨_, rfl, Below.refl _ _⟩
  · exact ⟨_, rfl, Lib.bytesWorld_below _ _ _⟩
theorem pu32_no {n : Dc.Nm} (h : Dc.CN n) (h0 : n.2.2 = 0) (hl : n.2.1.length ≤ 4096) (hr : ¬ (0 ≤ Dc.nv n 0 ∧ Dc.nv n 0 ≤ 4294967295)) (w : World) (hw : Lw w) : Calls Tryz.prog 112 #[.string (Dc.sb (Dc.txS n)), .int .i64 10, .int .i64 32] w fun e w' => ∃ x N, e = .returned (.tuple #[.int .u64 x, .iface 179 (.pointer (some ⟨N, 0, none⟩))]) ∧ Below w.heap.size w w' := by
  obtain ⟨tp, p, hv⟩ := hw.er
  obtain ⟨tq, q, hv2⟩ := hw.es
  have hp := pu_tx h h0 32 (by decide)
  by_cases hn : Dc.nv n 0 < 0
  · rw [if_pos hn] at hp
    refine (Tryz.strconv_ParseUint_10_at32_syntax_var _ (by have := tx_size h0 hl; omega) hp tq q w hv2).mono ?_
    rintro e w' ⟨N, rfl, _, _, hb⟩
    exact ⟨_, N, rfl, hb⟩
  · rw [if_neg hn, if_neg (by show ¬ (Dc.nv n 0 ≤ ((4294967295 : Nat) : Int)); omega)] at hp
    refine (Tryz.strconv_ParseUint_10_at32_range_var _ (by have := tx_size h0 hl; omega) hp tp p w hv).mono ?_
    rintro e w' ⟨N, rfl, _, _, hb⟩
    exact ⟨_, N, rfl, hb⟩
theorem pi64_ok {n : Dc.Nm} (h : Dc.CN n) (h0 : n.2.2 = 0) (hl : n.2.1.length ≤ 4096) (hr : -9223372036854775808 ≤ Dc.nv n 0 ∧ Dc.nv n 0 ≤ 9223372036854775807) (w : World) : Calls Tryz.prog 110 #[.string (Dc.sb (Dc.txS n)), .int .i64 10, .int .i64 64] w fun e w' => e = .returned (.tuple #[.int .i64 (Dc.nv n 0), .nilIface]) ∧ Below w.heap.size w w' := by
  refine (Tryz.strconv_ParseInt_10_at64_ok _ (by have := tx_size h0 hl; omega) _ ((pi_tx h h0 64 (by decide) 9223372036854775808 (by decide) (by decide) (by decide)).1 (by omega)) w).mono ?_
  rintro e w' ⟨rfl, rfl | ⟨t, rfl⟩⟩
  · exact ⟨rfl, Below.refl _ _⟩
  · exact ⟨rfl, Lib.bytesWorld_below _ _ _⟩
theorem pi64_no {n : Dc.Nm} (h : Dc.CN n) (h0 : n.2.2 = 0) (hl : n.2.1.length ≤ 4096) (hr : ¬ (-9223372036854775808 ≤ Dc.nv n 0 ∧ Dc.nv n 0 ≤ 9223372036854775807)) (w : World) (hw : Lw w) : Calls Tryz.prog 110 #[.string (Dc.sb (Dc.txS n)), .int .i64 10, .int .i64 64] w fun e w' => ∃ x N, e = .returned (.tuple #[.int .i64 x, .iface 179 (.pointer (some ⟨N, 0, none⟩))]) ∧ Below w.heap.size w w' := by
  obtain ⟨tp, p, hv⟩ := hw.er
  refine (Tryz.strconv_ParseInt_10_at64_range_var _ (by have := tx_size h0 hl; omega) ((pi_tx h h0 64 (by decide) 9223372036854775808 (by decide) (by decide) (by decide)).2 (by omega)) tp p w hv).mono ?_
  rintro e w' ⟨N, rfl, _, _, hb⟩
  exact ⟨_, N, rfl, hb⟩
theorem pu64_ok {n : Dc.Nm} (h : Dc.CN n) (h0 : n.2.2 = 0) (hl : n.2.1.length ≤ 4096) (hr : 0 ≤ Dc.nv n 0 ∧ Dc.nv n 0 ≤ 18446744073709551615) (w : World) : Calls Tryz.prog 112 #[.string (Dc.sb (Dc.txS n)), .int .i64 10, .int .i64 64] w fun e w' => ∃ x, e = .returned (.tuple #[.int .u64 x, .nilIface]) ∧ Below w.heap.size w w' := by
  have hp := pu_tx h h0 64 (by decide)
  rw [if_neg (by omega), if_pos (by show Dc.nv n 0 ≤ ((18446744073709551615 : Nat) : Int); omega)] at hp
  refine (Tryz.strconv_ParseUint_10_at64_ok _ (by have := tx_size h0 hl; omega) _ hp w).mono ?_
  rintro e w' ⟨rfl, rfl | rfl⟩
  · exact ⟨_, rfl, Below.refl _ _⟩
  · exact ⟨_, rfl, Lib.bytesWorld_below _ _ _⟩
theorem pu64_no {n : Dc.Nm} (h : Dc.CN n) (h0 : n.2.2 = 0) (hl : n.2.1.length ≤ 4096) (hr : ¬ (0 ≤ Dc.nv n 0 ∧ Dc.nv n 0 ≤ 18446744073709551615)) (w : World) (hw : Lw w) : Calls Tryz.prog 112 #[.string (Dc.sb (Dc.txS n)), .int .i64 10, .int .i64 64] w fun e w' => ∃ x N, e = .returned (.tuple #[.int .u64 x, .iface 179 (.pointer (some ⟨N, 0, none⟩))]) ∧ Below w.heap.size w w' := by
  obtain ⟨tp, p, hv⟩ := hw.er
  obtain ⟨tq, q, hv2⟩ := hw.es
  have hp := pu_tx h h0 64 (by decide)
  by_cases hn : Dc.nv n 0 < 0
  · rw [if_pos hn] at hp
    refine (Tryz.strconv_ParseUint_10_at64_syntax_var _ (by have := tx_size h0 hl; omega) hp tq q w hv2).mono ?_
    rintro e w' ⟨N, rfl, _, _, hb⟩
    exact ⟨_, N, rfl, hb⟩
  · rw [if_neg hn, if_neg (by show ¬ (Dc.nv n 0 ≤ ((18446744073709551615 : Nat) : Int)); omega)] at hp
    refine (Tryz.strconv_ParseUint_10_at64_range_var _ (by have := tx_size h0 hl; omega) hp tp p w hv).mono ?_
    rintro e w' ⟨N, rfl, _, _, hb⟩
    exact ⟨_, N, rfl, hb⟩
theorem contains_p (s : ByteArray) (w : World) : Calls Tryz.prog 108 #[.string s, .string ⟨#[46]⟩] w fun e w' => e = .returned (.bool (decide (0 ≤ Dc.ix (Dc.bl s)))) ∧ w' = w := by
  go_enter Tryz.func108, Tryz.ntmps108
  go_wp2_with (first | (go_at_call 176; refine (Dc.index_any _ _).mono ?_; rintro e w' ⟨rfl, rfl⟩) | go_in)
  go_ret
  exact ⟨rfl, rfl⟩
def wdS (k : Int) : Int := if k = 16 ∨ k = 20 then 64 else if k = 17 ∨ k = 21 then 32 else if k = 18 ∨ k = 22 then 16 else 8
theorem width_p (k : Int) (h0 : 16 ≤ k) (h1 : k ≤ 23) (w : World) : Calls Tryz.prog 111 #[.int .i64 k] w fun e w' => e = .returned (.int .i64 (wdS k)) ∧ w' = w := by
  rcases (by omega : k = 16 ∨ k = 17 ∨ k = 18 ∨ k = 19 ∨ k = 20 ∨ k = 21 ∨ k = 22 ∨ k = 23) with rfl | rfl | rfl | rfl | rfl | rfl | rfl | rfl
  all_goals
    clear h0 h1
    go_enter Tryz.func111, Tryz.ntmps111
    go_wp2
    go_ret
    exact ⟨rfl, rfl⟩
end Go.Proofs.YtgaegajcejpmdaaGreatDoor
namespace Go.Proofs.YtgaegajcejpmdaaGreatDoor
open Go.RowKit
set_option linter.unusedVariables false
set_option linter.unusedSimpArgs false

theorem cmp0 {n : Dc.Nm} (h : Dc.CN n) (h0 : n.2.2 = 0) : (Dc.cmpS n (false, [0], 0) = -1 ∧ Dc.nv n 0 < 0) ∨ (Dc.cmpS n (false, [0], 0) = 0 ∧ Dc.nv n 0 = 0) ∨ (Dc.cmpS n (false, [0], 0) = 1 ∧ 0 < Dc.nv n 0) := by
  have := Dc.cmp_at (S := 0) h Dc.z_cn (by omega) (Nat.le_refl _)
  rw [Dc.z_nv] at this
  exact this
theorem wd16 (w : World) : Calls Tryz.prog 111 #[.int .i64 16] w fun e w' => e = .returned (.int .i64 64) ∧ w' = w := width_p 16 (by omega) (by omega) w
theorem wd17 (w : World) : Calls Tryz.prog 111 #[.int .i64 17] w fun e w' => e = .returned (.int .i64 32) ∧ w' = w := width_p 17 (by omega) (by omega) w
theorem wd18 (w : World) : Calls Tryz.prog 111 #[.int .i64 18] w fun e w' => e = .returned (.int .i64 16) ∧ w' = w := width_p 18 (by omega) (by omega) w
theorem wd19 (w : World) : Calls Tryz.prog 111 #[.int .i64 19] w fun e w' => e = .returned (.int .i64 8) ∧ w' = w := width_p 19 (by omega) (by omega) w
theorem wd20 (w : World) : Calls Tryz.prog 111 #[.int .i64 20] w fun e w' => e = .returned (.int .i64 64) ∧ w' = w := width_p 20 (by omega) (by omega) w
theorem wd21 (w : World) : Calls Tryz.prog 111 #[.int .i64 21] w fun e w' => e = .returned (.int .i64 32) ∧ w' = w := width_p 21 (by omega) (by omega) w
theorem wd22 (w : World) : Calls Tryz.prog 111 #[.int .i64 22] w fun e w' => e = .returned (.int .i64 16) ∧ w' = w := width_p 22 (by omega) (by omega) w
theorem wd23 (w : World) : Calls Tryz.prog 111 #[.int .i64 23] w fun e w' => e = .returned (.int .i64 8) ∧ w' = w := width_p 23 (by omega) (by omega) w
set_option maxRecDepth 100000 in
set_option maxHeartbeats 6400000 in
theorem counted_p (k : Int) (s : ByteArray) {n : Dc.Nm} {v : Value} {w : World} (hk0 : 10 ≤ k) (hk1 : k ≤ 23) (h : Dc.NmR w v n) (hp : Dc.parS (Dc.bl s) = .ok n) (hw : Lw w) : Calls Tryz.prog 60 #[.int .i64 k, .string s, Dc.nmV n.1 v n.2.2] w fun e w' => e = .returned (.bool (cntB k (Dc.bl s) n)) ∧ Below w.heap.size w w' := by
  obtain ⟨va, vc, rfl, _⟩ := h.bt.form
  have hb0 : Below w.heap.size w (w.alloc (.cells #[.bool n.1, .slice va n.2.1.length vc, .int .i64 n.2.2] 34)) := (Below.refl _ _).alloc (Nat.le_refl _) _
  have hx := Dc.nw_heap w (.cells #[.bool n.1, .slice va n.2.1.length vc, .int .i64 n.2.2] 34)
  by_cases hk10 : k = 10
  · subst hk10
    have HB0 : Hid _ := hb0
    clear hb0 hx hk0 hk1
    go_enter Tryz.func60, Tryz.ntmps60
    go_wp2_with fail
    go_ret
    exact ⟨rfl, HB0.out⟩
  · have hkb : (k == 10) = false := by simpa using hk10
    by_cases hix : Dc.ix (Dc.bl s) = -1
    case neg =>
      have hd : decide (0 ≤ Dc.ix (Dc.bl s)) = true := by
        have := Dc.ix_bd (Dc.bl s)
        simp; omega
      have HE : Hid (cntB k (Dc.bl s) n = false) := by show _ = _; unfold cntB; rw [if_neg hk10, if_neg hix]
      have HB0 : Hid _ := hb0
      have hcp := fun W => contains_p s W
      rw [hd] at hcp
      clear hb0 hx hk0 hk1 hk10 hix hd
      go_enter Tryz.func60, Tryz.ntmps60
      go_wp2_with (go_at_call 108; refine (hcp _).mono ?_; rintro e w' ⟨rfl, rfl⟩)
      go_ret
      exact ⟨ret_b HE.out.symm, HB0.out⟩
    case pos =>
      have hd : decide (0 ≤ Dc.ix (Dc.bl s)) = false := by rw [hix]; rfl
      have HE : Hid (cntB k (Dc.bl s) n = wiB k (Dc.nv n 0)) := by show _ = _; unfold cntB; rw [if_neg hk10, if_pos hix]
      have hn0 := par_whole hp hix
      have hcp := fun W => contains_p s W
      rw [hd] at hcp
      have hc0 := cmp0 h.cn hn0
      generalize hU : w.alloc (.cells #[.bool n.1, .slice va n.2.1.length vc, .int .i64 n.2.2] 34) = U at hb0 hx
      have qi := fun W (hW : Below U.heap.size U W) => Dc.int_p 0 (by omega) (by omega) W (hw.tab.below (hb0.trans (hW.mono hb0.size)))
      have qc := fun W (hW : Below U.heap.size U W) v' (hv' : Dc.NmR W v' (false, [0], 0)) => Dc.cmp_p (h.below (hb0.trans (hW.mono hb0.size))) hv'
      have qt := fun W (hW : Below U.heap.size U W) => Dc.text_p (h.below (hb0.trans (hW.mono hb0.size)))
      have qw := fun W (hW : Below U.heap.size U W) => hw.below (hb0.trans (hW.mono hb0.size))
      have hcn := h.cn
      have hle := h.le
      have hkp : ∀ W, Below U.heap.size U W → (W.cell? ⟨w.heap.size, 0, none⟩ = some (.bool n.1) ∧ W.cell? ⟨w.heap.size, 1, none⟩ = some (.slice va n.2.1.length vc) ∧ W.cell? ⟨w.heap.size, 2, none⟩ = some (.int .i64 n.2.2)) := fun W hb => Dc.boxK hx W hb
      have HKP : Hid _ := hkp
      have HB : Hid (Below U.heap.size U U.drew) := Dc.Below.drewN' 1
      obtain ⟨g00, g01, g02⟩ := hkp U (Below.refl _ _)
      have e0 : Dc.inS 0 = (false, [0], 0) := rfl
      rw [e0] at qi
      generalize hcz : Dc.cmpS n (false, [0], 0) = c at *
      generalize hvz : Dc.nv n 0 = vz at *
      have HH : Hid _ := And.intro qi (And.intro qc (And.intro qt (And.intro qw (And.intro hb0 (And.intro hc0 (And.intro hn0 (And.intro hle (And.intro hcn hvz))))))))
      clear qi qc qt qw hb0 hc0 hn0 hle hcn hvz hkp hx h hp hw hix hd e0 hcz
      go_enter Tryz.func60, Tryz.ntmps60
      go_upto_region 5 with (go_at_call 108; refine (hcp _).mono ?_; rintro e w' ⟨rfl, rfl⟩)
      go_region_held3 (fun W => W.cell? ⟨w.heap.size, 0, none⟩ = some (.bool n.1) ∧ W.cell? ⟨w.heap.size, 1, none⟩ = some (.slice va n.2.1.length vc) ∧ W.cell? ⟨w.heap.size, 2, none⟩ = some (.int .i64 n.2.2)) (first | exact ⟨g00, g01, g02⟩ | go_keep) (first
        | (go_at_call 109; (with_reducible refine Calls.mono (HH.out.1 _ HB.out) ?_); rintro e w9 ⟨a9, c9, rfl, hn9, hb9⟩; have hbb := HB.out.trans (hb9.mono HB.out.size); clear HB g00 g01 g02; obtain ⟨g00, g01, g02⟩ := HKP.out _ hbb; have HB : Hid _ := hbb; have HN : Hid _ := hn9; clear hbb hb9 hn9)
        | (go_at_call 30; (with_reducible refine Calls.mono (HH.out.2.1 _ HB.out _ HN.out) ?_); rintro e w9 ⟨rfl, hb9⟩; have hbb := HB.out.trans (hb9.mono HB.out.size); clear HB g00 g01 g02; obtain ⟨g00, g01, g02⟩ := HKP.out _ hbb; have HB : Hid _ := hbb; clear hbb hb9))
      rcases (by omega : k = 11 ∨ k = 12 ∨ k = 13 ∨ k = 14 ∨ k = 15 ∨ k = 16 ∨ k = 17 ∨ k = 18 ∨ k = 19 ∨ k = 20 ∨ k = 21 ∨ k = 22 ∨ k = 23) with rfl | rfl | rfl | rfl | rfl | rfl | rfl | rfl | rfl | rfl | rfl | rfl | rfl
      all_goals clear hk0 hk1 hk10
      · go_wp2_with fail
        go_ret
        exact ⟨ret_b (HE.out.trans rfl).symm, HH.out.2.2.2.2.1.trans (HB.out.mono HH.out.2.2.2.2.1.size)⟩
      · go_wp2_with fail
        all_goals
          go_ret
          refine ⟨ret_b ?_, HH.out.2.2.2.2.1.trans (HB.out.mono HH.out.2.2.2.2.1.size)⟩
          rw [HE.out]
          have := HH.out.2.2.2.2.2.1
          rw [Bool.eq_iff_iff]
          simp [wiB]
          omega
      · go_wp2_with fail
        all_goals
          go_ret
          refine ⟨ret_b ?_, HH.out.2.2.2.2.1.trans (HB.out.mono HH.out.2.2.2.2.1.size)⟩
          rw [HE.out]
          have := HH.out.2.2.2.2.2.1
          rw [Bool.eq_iff_iff]
          simp [wiB]
          omega
      · go_wp2_with fail
        all_goals
          go_ret
          refine ⟨ret_b ?_, HH.out.2.2.2.2.1.trans (HB.out.mono HH.out.2.2.2.2.1.size)⟩
          rw [HE.out]
          have := HH.out.2.2.2.2.2.1
          rw [Bool.eq_iff_iff]
          simp [wiB]
          omega
      · go_wp2_with fail
        all_goals
          go_ret
          refine ⟨ret_b ?_, HH.out.2.2.2.2.1.trans (HB.out.mono HH.out.2.2.2.2.1.size)⟩
          rw [HE.out]
          have := HH.out.2.2.2.2.2.1
          rw [Bool.eq_iff_iff]
          simp [wiB]
          omega
      · by_cases hr : -9223372036854775808 ≤ vz ∧ vz ≤ 9223372036854775807
        · have HR : Hid _ := hr
          have hwi : Hid (wiB 16 vz = true) := by show _ = _; simp [wiB]; omega
          clear hr
          go_wp2_with (first | (go_at_call 32; (with_reducible refine Calls.mono (HH.out.2.2.1 _ HB.out) ?_); rintro e w9 ⟨rfl, hb9⟩; have hbb := HB.out.trans (hb9.mono HB.out.size); clear HB g00 g01 g02; obtain ⟨g00, g01, g02⟩ := HKP.out _ hbb; have HB : Hid _ := hbb; clear hbb hb9) | (go_at_call 111; refine (wd16 _).mono ?_; rintro e w8 ⟨rfl, rfl⟩) | (go_at_call 110; (with_reducible refine Calls.mono (pi64_ok HH.out.2.2.2.2.2.2.2.2.1 HH.out.2.2.2.2.2.2.1 HH.out.2.2.2.2.2.2.2.1 (by rw [HH.out.2.2.2.2.2.2.2.2.2]; exact HR.out) _) ?_); rintro e w9 ⟨rfl, hb9⟩; have hbb := HB.out.trans (hb9.mono HB.out.size); clear HB g00 g01 g02; have HB : Hid _ := hbb; clear hbb hb9))
          go_ret
          exact ⟨ret_b (HE.out.trans hwi.out).symm, HH.out.2.2.2.2.1.trans (HB.out.mono HH.out.2.2.2.2.1.size)⟩
        · have HR : Hid _ := hr
          have hwi : Hid (wiB 16 vz = false) := by show _ = _; simp [wiB]; omega
          clear hr
          go_wp2_with (first | (go_at_call 32; (with_reducible refine Calls.mono (HH.out.2.2.1 _ HB.out) ?_); rintro e w9 ⟨rfl, hb9⟩; have hbb := HB.out.trans (hb9.mono HB.out.size); clear HB g00 g01 g02; obtain ⟨g00, g01, g02⟩ := HKP.out _ hbb; have HB : Hid _ := hbb; clear hbb hb9) | (go_at_call 111; refine (wd16 _).mono ?_; rintro e w8 ⟨rfl, rfl⟩) | (go_at_call 110; (with_reducible refine Calls.mono (pi64_no HH.out.2.2.2.2.2.2.2.2.1 HH.out.2.2.2.2.2.2.1 HH.out.2.2.2.2.2.2.2.1 (by rw [HH.out.2.2.2.2.2.2.2.2.2]; exact HR.out) _ (HH.out.2.2.2.1 _ HB.out)) ?_); rintro e w9 ⟨x9, N9, rfl, hb9⟩; have hbb := HB.out.trans (hb9.mono HB.out.size); clear HB g00 g01 g02; have HB : Hid _ := hbb; clear hbb hb9))
          go_ret
          exact ⟨ret_b (HE.out.trans hwi.out).symm, HH.out.2.2.2.2.1.trans (HB.out.mono HH.out.2.2.2.2.1.size)⟩
      · by_cases hr : -2147483648 ≤ vz ∧ vz ≤ 2147483647
        · have HR : Hid _ := hr
          have hwi : Hid (wiB 17 vz = true) := by show _ = _; simp [wiB]; omega
          clear hr
          go_wp2_with (first | (go_at_call 32; (with_reducible refine Calls.mono (HH.out.2.2.1 _ HB.out) ?_); rintro e w9 ⟨rfl, hb9⟩; have hbb := HB.out.trans (hb9.mono HB.out.size); clear HB g00 g01 g02; obtain ⟨g00, g01, g02⟩ := HKP.out _ hbb; have HB : Hid _ := hbb; clear hbb hb9) | (go_at_call 111; refine (wd17 _).mono ?_; rintro e w8 ⟨rfl, rfl⟩) | (go_at_call 110; (with_reducible refine Calls.mono (pi32_ok HH.out.2.2.2.2.2.2.2.2.1 HH.out.2.2.2.2.2.2.1 HH.out.2.2.2.2.2.2.2.1 (by rw [HH.out.2.2.2.2.2.2.2.2.2]; exact HR.out) _) ?_); rintro e w9 ⟨rfl, hb9⟩; have hbb := HB.out.trans (hb9.mono HB.out.size); clear HB g00 g01 g02; have HB : Hid _ := hbb; clear hbb hb9))
          go_ret
          exact ⟨ret_b (HE.out.trans hwi.out).symm, HH.out.2.2.2.2.1.trans (HB.out.mono HH.out.2.2.2.2.1.size)⟩
        · have HR : Hid _ := hr
          have hwi : Hid (wiB 17 vz = false) := by show _ = _; simp [wiB]; omega
          clear hr
          go_wp2_with (first | (go_at_call 32; (with_reducible refine Calls.mono (HH.out.2.2.1 _ HB.out) ?_); rintro e w9 ⟨rfl, hb9⟩; have hbb := HB.out.trans (hb9.mono HB.out.size); clear HB g00 g01 g02; obtain ⟨g00, g01, g02⟩ := HKP.out _ hbb; have HB : Hid _ := hbb; clear hbb hb9) | (go_at_call 111; refine (wd17 _).mono ?_; rintro e w8 ⟨rfl, rfl⟩) | (go_at_call 110; (with_reducible refine Calls.mono (pi32_no HH.out.2.2.2.2.2.2.2.2.1 HH.out.2.2.2.2.2.2.1 HH.out.2.2.2.2.2.2.2.1 (by rw [HH.out.2.2.2.2.2.2.2.2.2]; exact HR.out) _ (HH.out.2.2.2.1 _ HB.out)) ?_); rintro e w9 ⟨x9, N9, rfl, hb9⟩; have hbb := HB.out.trans (hb9.mono HB.out.size); clear HB g00 g01 g02; have HB : Hid _ := hbb; clear hbb hb9))
          go_ret
          exact ⟨ret_b (HE.out.trans hwi.out).symm, HH.out.2.2.2.2.1.trans (HB.out.mono HH.out.2.2.2.2.1.size)⟩
      · by_cases hr : -32768 ≤ vz ∧ vz ≤ 32767
        · have HR : Hid _ := hr
          have hwi : Hid (wiB 18 vz = true) := by show _ = _; simp [wiB]; omega
          clear hr
          go_wp2_with (first | (go_at_call 32; (with_reducible refine Calls.mono (HH.out.2.2.1 _ HB.out) ?_); rintro e w9 ⟨rfl, hb9⟩; have hbb := HB.out.trans (hb9.mono HB.out.size); clear HB g00 g01 g02; obtain ⟨g00, g01, g02⟩ := HKP.out _ hbb; have HB : Hid _ := hbb; clear hbb hb9) | (go_at_call 111; refine (wd18 _).mono ?_; rintro e w8 ⟨rfl, rfl⟩) | (go_at_call 110; (with_reducible refine Calls.mono (pi16_ok HH.out.2.2.2.2.2.2.2.2.1 HH.out.2.2.2.2.2.2.1 HH.out.2.2.2.2.2.2.2.1 (by rw [HH.out.2.2.2.2.2.2.2.2.2]; exact HR.out) _) ?_); rintro e w9 ⟨rfl, hb9⟩; have hbb := HB.out.trans (hb9.mono HB.out.size); clear HB g00 g01 g02; have HB : Hid _ := hbb; clear hbb hb9))
          go_ret
          exact ⟨ret_b (HE.out.trans hwi.out).symm, HH.out.2.2.2.2.1.trans (HB.out.mono HH.out.2.2.2.2.1.size)⟩
        · have HR : Hid _ := hr
          have hwi : Hid (wiB 18 vz = false) := by show _ = _; simp [wiB]; omega
          clear hr
          go_wp2_with (first | (go_at_call 32; (with_reducible refine Calls.mono (HH.out.2.2.1 _ HB.out) ?_); rintro e w9 ⟨rfl, hb9⟩; have hbb := HB.out.trans (hb9.mono HB.out.size); clear HB g00 g01 g02; obtain ⟨g00, g01, g02⟩ := HKP.out _ hbb; have HB : Hid _ := hbb; clear hbb hb9) | (go_at_call 111; refine (wd18 _).mono ?_; rintro e w8 ⟨rfl, rfl⟩) | (go_at_call 110; (with_reducible refine Calls.mono (pi16_no HH.out.2.2.2.2.2.2.2.2.1 HH.out.2.2.2.2.2.2.1 HH.out.2.2.2.2.2.2.2.1 (by rw [HH.out.2.2.2.2.2.2.2.2.2]; exact HR.out) _ (HH.out.2.2.2.1 _ HB.out)) ?_); rintro e w9 ⟨x9, N9, rfl, hb9⟩; have hbb := HB.out.trans (hb9.mono HB.out.size); clear HB g00 g01 g02; have HB : Hid _ := hbb; clear hbb hb9))
          go_ret
          exact ⟨ret_b (HE.out.trans hwi.out).symm, HH.out.2.2.2.2.1.trans (HB.out.mono HH.out.2.2.2.2.1.size)⟩
      · by_cases hr : -128 ≤ vz ∧ vz ≤ 127
        · have HR : Hid _ := hr
          have hwi : Hid (wiB 19 vz = true) := by show _ = _; simp [wiB]; omega
          clear hr
          go_wp2_with (first | (go_at_call 32; (with_reducible refine Calls.mono (HH.out.2.2.1 _ HB.out) ?_); rintro e w9 ⟨rfl, hb9⟩; have hbb := HB.out.trans (hb9.mono HB.out.size); clear HB g00 g01 g02; obtain ⟨g00, g01, g02⟩ := HKP.out _ hbb; have HB : Hid _ := hbb; clear hbb hb9) | (go_at_call 111; refine (wd19 _).mono ?_; rintro e w8 ⟨rfl, rfl⟩) | (go_at_call 110; (with_reducible refine Calls.mono (pi8_ok HH.out.2.2.2.2.2.2.2.2.1 HH.out.2.2.2.2.2.2.1 HH.out.2.2.2.2.2.2.2.1 (by rw [HH.out.2.2.2.2.2.2.2.2.2]; exact HR.out) _) ?_); rintro e w9 ⟨rfl, hb9⟩; have hbb := HB.out.trans (hb9.mono HB.out.size); clear HB g00 g01 g02; have HB : Hid _ := hbb; clear hbb hb9))
          go_ret
          exact ⟨ret_b (HE.out.trans hwi.out).symm, HH.out.2.2.2.2.1.trans (HB.out.mono HH.out.2.2.2.2.1.size)⟩
        · have HR : Hid _ := hr
          have hwi : Hid (wiB 19 vz = false) := by show _ = _; simp [wiB]; omega
          clear hr
          go_wp2_with (first | (go_at_call 32; (with_reducible refine Calls.mono (HH.out.2.2.1 _ HB.out) ?_); rintro e w9 ⟨rfl, hb9⟩; have hbb := HB.out.trans (hb9.mono HB.out.size); clear HB g00 g01 g02; obtain ⟨g00, g01, g02⟩ := HKP.out _ hbb; have HB : Hid _ := hbb; clear hbb hb9) | (go_at_call 111; refine (wd19 _).mono ?_; rintro e w8 ⟨rfl, rfl⟩) | (go_at_call 110; (with_reducible refine Calls.mono (pi8_no HH.out.2.2.2.2.2.2.2.2.1 HH.out.2.2.2.2.2.2.1 HH.out.2.2.2.2.2.2.2.1 (by rw [HH.out.2.2.2.2.2.2.2.2.2]; exact HR.out) _ (HH.out.2.2.2.1 _ HB.out)) ?_); rintro e w9 ⟨x9, N9, rfl, hb9⟩; have hbb := HB.out.trans (hb9.mono HB.out.size); clear HB g00 g01 g02; have HB : Hid _ := hbb; clear hbb hb9))
          go_ret
          exact ⟨ret_b (HE.out.trans hwi.out).symm, HH.out.2.2.2.2.1.trans (HB.out.mono HH.out.2.2.2.2.1.size)⟩
      · by_cases hr : 0 ≤ vz ∧ vz ≤ 18446744073709551615
        · have HR : Hid _ := hr
          have hwi : Hid (wiB 20 vz = true) := by show _ = _; simp [wiB]; omega
          clear hr
          go_wp2_with (first | (go_at_call 32; (with_reducible refine Calls.mono (HH.out.2.2.1 _ HB.out) ?_); rintro e w9 ⟨rfl, hb9⟩; have hbb := HB.out.trans (hb9.mono HB.out.size); clear HB g00 g01 g02; obtain ⟨g00, g01, g02⟩ := HKP.out _ hbb; have HB : Hid _ := hbb; clear hbb hb9) | (go_at_call 111; refine (wd20 _).mono ?_; rintro e w8 ⟨rfl, rfl⟩) | (go_at_call 112; (with_reducible refine Calls.mono (pu64_ok HH.out.2.2.2.2.2.2.2.2.1 HH.out.2.2.2.2.2.2.1 HH.out.2.2.2.2.2.2.2.1 (by rw [HH.out.2.2.2.2.2.2.2.2.2]; exact HR.out) _) ?_); rintro e w9 ⟨x9, rfl, hb9⟩; have hbb := HB.out.trans (hb9.mono HB.out.size); clear HB g00 g01 g02; have HB : Hid _ := hbb; clear hbb hb9))
          go_ret
          exact ⟨ret_b (HE.out.trans hwi.out).symm, HH.out.2.2.2.2.1.trans (HB.out.mono HH.out.2.2.2.2.1.size)⟩
        · have HR : Hid _ := hr
          have hwi : Hid (wiB 20 vz = false) := by show _ = _; simp [wiB]; omega
          clear hr
          go_wp2_with (first | (go_at_call 32; (with_reducible refine Calls.mono (HH.out.2.2.1 _ HB.out) ?_); rintro e w9 ⟨rfl, hb9⟩; have hbb := HB.out.trans (hb9.mono HB.out.size); clear HB g00 g01 g02; obtain ⟨g00, g01, g02⟩ := HKP.out _ hbb; have HB : Hid _ := hbb; clear hbb hb9) | (go_at_call 111; refine (wd20 _).mono ?_; rintro e w8 ⟨rfl, rfl⟩) | (go_at_call 112; (with_reducible refine Calls.mono (pu64_no HH.out.2.2.2.2.2.2.2.2.1 HH.out.2.2.2.2.2.2.1 HH.out.2.2.2.2.2.2.2.1 (by rw [HH.out.2.2.2.2.2.2.2.2.2]; exact HR.out) _ (HH.out.2.2.2.1 _ HB.out)) ?_); rintro e w9 ⟨x9, N9, rfl, hb9⟩; have hbb := HB.out.trans (hb9.mono HB.out.size); clear HB g00 g01 g02; have HB : Hid _ := hbb; clear hbb hb9))
          go_ret
          exact ⟨ret_b (HE.out.trans hwi.out).symm, HH.out.2.2.2.2.1.trans (HB.out.mono HH.out.2.2.2.2.1.size)⟩
      · by_cases hr : 0 ≤ vz ∧ vz ≤ 4294967295
        · have HR : Hid _ := hr
          have hwi : Hid (wiB 21 vz = true) := by show _ = _; simp [wiB]; omega
          clear hr
          go_wp2_with (first | (go_at_call 32; (with_reducible refine Calls.mono (HH.out.2.2.1 _ HB.out) ?_); rintro e w9 ⟨rfl, hb9⟩; have hbb := HB.out.trans (hb9.mono HB.out.size); clear HB g00 g01 g02; obtain ⟨g00, g01, g02⟩ := HKP.out _ hbb; have HB : Hid _ := hbb; clear hbb hb9) | (go_at_call 111; refine (wd21 _).mono ?_; rintro e w8 ⟨rfl, rfl⟩) | (go_at_call 112; (with_reducible refine Calls.mono (pu32_ok HH.out.2.2.2.2.2.2.2.2.1 HH.out.2.2.2.2.2.2.1 HH.out.2.2.2.2.2.2.2.1 (by rw [HH.out.2.2.2.2.2.2.2.2.2]; exact HR.out) _) ?_); rintro e w9 ⟨x9, rfl, hb9⟩; have hbb := HB.out.trans (hb9.mono HB.out.size); clear HB g00 g01 g02; have HB : Hid _ := hbb; clear hbb hb9))
          go_ret
          exact ⟨ret_b (HE.out.trans hwi.out).symm, HH.out.2.2.2.2.1.trans (HB.out.mono HH.out.2.2.2.2.1.size)⟩
        · have HR : Hid _ := hr
          have hwi : Hid (wiB 21 vz = false) := by show _ = _; simp [wiB]; omega
          clear hr
          go_wp2_with (first | (go_at_call 32; (with_reducible refine Calls.mono (HH.out.2.2.1 _ HB.out) ?_); rintro e w9 ⟨rfl, hb9⟩; have hbb := HB.out.trans (hb9.mono HB.out.size); clear HB g00 g01 g02; obtain ⟨g00, g01, g02⟩ := HKP.out _ hbb; have HB : Hid _ := hbb; clear hbb hb9) | (go_at_call 111; refine (wd21 _).mono ?_; rintro e w8 ⟨rfl, rfl⟩) | (go_at_call 112; (with_reducible refine Calls.mono (pu32_no HH.out.2.2.2.2.2.2.2.2.1 HH.out.2.2.2.2.2.2.1 HH.out.2.2.2.2.2.2.2.1 (by rw [HH.out.2.2.2.2.2.2.2.2.2]; exact HR.out) _ (HH.out.2.2.2.1 _ HB.out)) ?_); rintro e w9 ⟨x9, N9, rfl, hb9⟩; have hbb := HB.out.trans (hb9.mono HB.out.size); clear HB g00 g01 g02; have HB : Hid _ := hbb; clear hbb hb9))
          go_ret
          exact ⟨ret_b (HE.out.trans hwi.out).symm, HH.out.2.2.2.2.1.trans (HB.out.mono HH.out.2.2.2.2.1.size)⟩
      · by_cases hr : 0 ≤ vz ∧ vz ≤ 65535
        · have HR : Hid _ := hr
          have hwi : Hid (wiB 22 vz = true) := by show _ = _; simp [wiB]; omega
          clear hr
          go_wp2_with (first | (go_at_call 32; (with_reducible refine Calls.mono (HH.out.2.2.1 _ HB.out) ?_); rintro e w9 ⟨rfl, hb9⟩; have hbb := HB.out.trans (hb9.mono HB.out.size); clear HB g00 g01 g02; obtain ⟨g00, g01, g02⟩ := HKP.out _ hbb; have HB : Hid _ := hbb; clear hbb hb9) | (go_at_call 111; refine (wd22 _).mono ?_; rintro e w8 ⟨rfl, rfl⟩) | (go_at_call 112; (with_reducible refine Calls.mono (pu16_ok HH.out.2.2.2.2.2.2.2.2.1 HH.out.2.2.2.2.2.2.1 HH.out.2.2.2.2.2.2.2.1 (by rw [HH.out.2.2.2.2.2.2.2.2.2]; exact HR.out) _) ?_); rintro e w9 ⟨x9, rfl, hb9⟩; have hbb := HB.out.trans (hb9.mono HB.out.size); clear HB g00 g01 g02; have HB : Hid _ := hbb; clear hbb hb9))
          go_ret
          exact ⟨ret_b (HE.out.trans hwi.out).symm, HH.out.2.2.2.2.1.trans (HB.out.mono HH.out.2.2.2.2.1.size)⟩
        · have HR : Hid _ := hr
          have hwi : Hid (wiB 22 vz = false) := by show _ = _; simp [wiB]; omega
          clear hr
          go_wp2_with (first | (go_at_call 32; (with_reducible refine Calls.mono (HH.out.2.2.1 _ HB.out) ?_); rintro e w9 ⟨rfl, hb9⟩; have hbb := HB.out.trans (hb9.mono HB.out.size); clear HB g00 g01 g02; obtain ⟨g00, g01, g02⟩ := HKP.out _ hbb; have HB : Hid _ := hbb; clear hbb hb9) | (go_at_call 111; refine (wd22 _).mono ?_; rintro e w8 ⟨rfl, rfl⟩) | (go_at_call 112; (with_reducible refine Calls.mono (pu16_no HH.out.2.2.2.2.2.2.2.2.1 HH.out.2.2.2.2.2.2.1 HH.out.2.2.2.2.2.2.2.1 (by rw [HH.out.2.2.2.2.2.2.2.2.2]; exact HR.out) _ (HH.out.2.2.2.1 _ HB.out)) ?_); rintro e w9 ⟨x9, N9, rfl, hb9⟩; have hbb := HB.out.trans (hb9.mono HB.out.size); clear HB g00 g01 g02; have HB : Hid _ := hbb; clear hbb hb9))
          go_ret
          exact ⟨ret_b (HE.out.trans hwi.out).symm, HH.out.2.2.2.2.1.trans (HB.out.mono HH.out.2.2.2.2.1.size)⟩
      · by_cases hr : 0 ≤ vz ∧ vz ≤ 255
        · have HR : Hid _ := hr
          have hwi : Hid (wiB 23 vz = true) := by show _ = _; simp [wiB]; omega
          clear hr
          go_wp2_with (first | (go_at_call 32; (with_reducible refine Calls.mono (HH.out.2.2.1 _ HB.out) ?_); rintro e w9 ⟨rfl, hb9⟩; have hbb := HB.out.trans (hb9.mono HB.out.size); clear HB g00 g01 g02; obtain ⟨g00, g01, g02⟩ := HKP.out _ hbb; have HB : Hid _ := hbb; clear hbb hb9) | (go_at_call 111; refine (wd23 _).mono ?_; rintro e w8 ⟨rfl, rfl⟩) | (go_at_call 112; (with_reducible refine Calls.mono (pu8_ok HH.out.2.2.2.2.2.2.2.2.1 HH.out.2.2.2.2.2.2.1 HH.out.2.2.2.2.2.2.2.1 (by rw [HH.out.2.2.2.2.2.2.2.2.2]; exact HR.out) _) ?_); rintro e w9 ⟨x9, rfl, hb9⟩; have hbb := HB.out.trans (hb9.mono HB.out.size); clear HB g00 g01 g02; have HB : Hid _ := hbb; clear hbb hb9))
          go_ret
          exact ⟨ret_b (HE.out.trans hwi.out).symm, HH.out.2.2.2.2.1.trans (HB.out.mono HH.out.2.2.2.2.1.size)⟩
        · have HR : Hid _ := hr
          have hwi : Hid (wiB 23 vz = false) := by show _ = _; simp [wiB]; omega
          clear hr
          go_wp2_with (first | (go_at_call 32; (with_reducible refine Calls.mono (HH.out.2.2.1 _ HB.out) ?_); rintro e w9 ⟨rfl, hb9⟩; have hbb := HB.out.trans (hb9.mono HB.out.size); clear HB g00 g01 g02; obtain ⟨g00, g01, g02⟩ := HKP.out _ hbb; have HB : Hid _ := hbb; clear hbb hb9) | (go_at_call 111; refine (wd23 _).mono ?_; rintro e w8 ⟨rfl, rfl⟩) | (go_at_call 112; (with_reducible refine Calls.mono (pu8_no HH.out.2.2.2.2.2.2.2.2.1 HH.out.2.2.2.2.2.2.1 HH.out.2.2.2.2.2.2.2.1 (by rw [HH.out.2.2.2.2.2.2.2.2.2]; exact HR.out) _ (HH.out.2.2.2.1 _ HB.out)) ?_); rintro e w9 ⟨x9, N9, rfl, hb9⟩; have hbb := HB.out.trans (hb9.mono HB.out.size); clear HB g00 g01 g02; have HB : Hid _ := hbb; clear hbb hb9))
          go_ret
          exact ⟨ret_b (HE.out.trans hwi.out).symm, HH.out.2.2.2.2.1.trans (HB.out.mono HH.out.2.2.2.2.1.size)⟩
end Go.Proofs.YtgaegajcejpmdaaGreatDoor
namespace Go.Proofs.YtgaegajcejpmdaaGreatDoor
open Go.RowKit
set_option linter.unusedVariables false
set_option linter.unusedSimpArgs false

abbrev z0 : Dt.Mo := ⟨0, 0, 0, 0, 0, 0, false, 0⟩
abbrev sp0 : Dt.Sp := ⟨0, 0, 0⟩
abbrev vlL (p : Int) (t : ByteArray) (ng : Bool) (sl : Value) (sc : Int) (m : Dt.Mo) (q : Dt.Sp) : List Value := [.int .i64 p, .string t, .bool ng, sl, .int .i64 sc, .int .i64 m.k, .int .i64 m.y, .int .i64 m.m, .int .i64 m.d, .int .i64 m.s, .int .i64 m.n, .bool m.hz, .int .i64 m.z, .int .i64 q.o, .int .i64 q.s, .int .i64 q.n]
abbrev vlV (p : Int) (t : ByteArray) (ng : Bool) (sl : Value) (sc : Int) (m : Dt.Mo) (q : Dt.Sp) : Value := .agg #[.int .i64 p, .string t, .bool ng, sl, .int .i64 sc, .int .i64 m.k, .int .i64 m.y, .int .i64 m.m, .int .i64 m.d, .int .i64 m.s, .int .i64 m.n, .bool m.hz, .int .i64 m.z, .int .i64 q.o, .int .i64 q.s, .int .i64 q.n]
/-- A box of a value's, written to since W0. -/
structure BX (N : Nat) (w W0 : World) (X : Nat) (t : TypeId) (cs : List Value) (W : World) : Prop where
  blk : W.heap[X]? = some (.cells cs.toArray t (0, 0))
  bel : Below N w W
  le : N ≤ X
  oth : ∀ k, k ≠ X → W.heap[k]? = W0.heap[k]?
  sz : W.heap.size = W0.heap.size
theorem BX.lsz {N : Nat} {w W0 W : World} {X : Nat} {t : TypeId} {cs : List Value} (h : BX N w W0 X t cs W) : N ≤ W.heap.size := by
  have := Dc.lt_of h.blk
  have := h.le
  omega
theorem BX.set {N : Nat} {w W0 W : World} {X : Nat} {t : TypeId} {cs : List Value} (h : BX N w W0 X t cs W) (i : Nat) (u : Value) : BX N w W0 X t (cs.set i u) (W.setCell ⟨X, i, none⟩ u) := by
  obtain ⟨g1, g2⟩ := Dc.setC (i := i) u h.blk
  refine ⟨by simpa using g2, h.bel.grown g1 h.lsz (fun k hk => by cases hk; exact h.le), h.le, fun k hk => ?_, ?_⟩
  · rw [← h.oth k hk]
    rcases Nat.lt_or_ge k W.heap.size with q | q
    · exact g1.block k q (fun e => hk (Option.some.inj e))
    · have hs : (W.setCell ⟨X, i, none⟩ u).heap.size = W.heap.size := by simp [World.setCell]
      rw [Array.getElem?_eq_none q, Array.getElem?_eq_none (by omega)]
  · rw [← h.sz]
    simp [World.setCell]
theorem BX.new (w : World) (t : TypeId) (cs : List Value) : BX w.heap.size w (w.alloc (.cells cs.toArray t)) w.heap.size t cs (w.alloc (.cells cs.toArray t)) :=
  ⟨nw_heap w _, (Below.refl _ _).alloc (Nat.le_refl _) _, Nat.le_refl _, fun _ _ => rfl, rfl⟩
theorem BX.below {N : Nat} {w W0 W W' : World} {X : Nat} {t : TypeId} {cs : List Value} (h : BX N w W0 X t cs W) (hb : Below W.heap.size W W') : BX N w W' X t cs W' :=
  ⟨(hb.block X (Dc.lt_of h.blk)).trans h.blk, h.bel.trans (hb.mono h.lsz), h.le, fun _ _ => rfl, rfl⟩
/-- The box's cells. -/
def C16 (W : World) (X : Nat) (a0 a1 a2 a3 a4 a5 a6 a7 a8 a9 a10 a11 a12 a13 a14 a15 : Value) : Prop :=
  W.cell? ⟨X, 0, none⟩ = some a0 ∧ W.cell? ⟨X, 1, none⟩ = some a1 ∧ W.cell? ⟨X, 2, none⟩ = some a2 ∧ W.cell? ⟨X, 3, none⟩ = some a3 ∧ W.cell? ⟨X, 4, none⟩ = some a4 ∧ W.cell? ⟨X, 5, none⟩ = some a5 ∧ W.cell? ⟨X, 6, none⟩ = some a6 ∧ W.cell? ⟨X, 7, none⟩ = some a7 ∧ W.cell? ⟨X, 8, none⟩ = some a8 ∧ W.cell? ⟨X, 9, none⟩ = some a9 ∧ W.cell? ⟨X, 10, none⟩ = some a10 ∧ W.cell? ⟨X, 11, none⟩ = some a11 ∧ W.cell? ⟨X, 12, none⟩ = some a12 ∧ W.cell? ⟨X, 13, none⟩ = some a13 ∧ W.cell? ⟨X, 14, none⟩ = some a14 ∧ W.cell? ⟨X, 15, none⟩ = some a15
def F16 (W : World) (X : Nat) : Prop :=
  W.frozen? ⟨X, 0, none⟩ = false ∧ W.frozen? ⟨X, 1, none⟩ = false ∧ W.frozen? ⟨X, 2, none⟩ = false ∧ W.frozen? ⟨X, 3, none⟩ = false ∧ W.frozen? ⟨X, 4, none⟩ = false ∧ W.frozen? ⟨X, 5, none⟩ = false ∧ W.frozen? ⟨X, 6, none⟩ = false ∧ W.frozen? ⟨X, 7, none⟩ = false ∧ W.frozen? ⟨X, 8, none⟩ = false ∧ W.frozen? ⟨X, 9, none⟩ = false ∧ W.frozen? ⟨X, 10, none⟩ = false ∧ W.frozen? ⟨X, 11, none⟩ = false ∧ W.frozen? ⟨X, 12, none⟩ = false ∧ W.frozen? ⟨X, 13, none⟩ = false ∧ W.frozen? ⟨X, 14, none⟩ = false ∧ W.frozen? ⟨X, 15, none⟩ = false
theorem c16 {W : World} {X : Nat} {t : TypeId} {a0 a1 a2 a3 a4 a5 a6 a7 a8 a9 a10 a11 a12 a13 a14 a15 : Value} (h : W.heap[X]? = some (.cells #[a0, a1, a2, a3, a4, a5, a6, a7, a8, a9, a10, a11, a12, a13, a14, a15] t (0, 0))) : C16 W X a0 a1 a2 a3 a4 a5 a6 a7 a8 a9 a10 a11 a12 a13 a14 a15 := by
  unfold C16
  simp only [World.cell?, h]
  exact ⟨rfl, rfl, rfl, rfl, rfl, rfl, rfl, rfl, rfl, rfl, rfl, rfl, rfl, rfl, rfl, rfl⟩
theorem f16 {W : World} {X : Nat} {t : TypeId} {a0 a1 a2 a3 a4 a5 a6 a7 a8 a9 a10 a11 a12 a13 a14 a15 : Value} (h : W.heap[X]? = some (.cells #[a0, a1, a2, a3, a4, a5, a6, a7, a8, a9, a10, a11, a12, a13, a14, a15] t (0, 0))) : F16 W X := by
  unfold F16
  simp [World.frozen?, h]
/-- A row of bytes is no box of a value's. -/
theorem btr_apart {w : World} {v : Value} {l : List Int} {X : Nat} {cs : List Value} {t : TypeId} (h : Dc.BtR w v l) (hX : w.heap[X]? = some (.cells cs.toArray t (0, 0))) (hc : ∀ u ∈ cs, ∀ d, u ≠ .int .u8 d) : ∀ j, v.ownBlock = some j → l ≠ [] → j ≠ X := by
  obtain ⟨a, cap, rfl, h1, h2, h3, h4⟩ := h
  intro j hj hn e
  rcases h4 with h4 | ⟨g, o, rfl, h5, h6⟩
  · exact hn h4
  · simp [Value.ownBlock] at hj
    have hg : g = X := by omega
    subst hg
    have hp : 0 < l.length := List.length_pos_iff.2 hn
    have := h6 0 hp
    rw [Nat.add_zero, row_cell hX] at this
    have hm := Array.mem_of_getElem? this
    exact hc _ (by simpa using hm) _ rfl
theorem BX.btr {N : Nat} {w W0 W : World} {X : Nat} {t : TypeId} {cs cs0 : List Value} {v : Value} {l : List Int} (h : BX N w W0 X t cs W) (hb : Dc.BtR W0 v l) (h0 : W0.heap[X]? = some (.cells cs0.toArray t (0, 0))) (hc : ∀ u ∈ cs0, ∀ d, u ≠ .int .u8 d) : Dc.BtR W v l :=
  hb.kept (Nat.le_of_eq h.sz.symm) h.oth (btr_apart hb h0 hc)
theorem BX.of {N : Nat} {w W0 W : World} {X : Nat} {t : TypeId} {cs : List Value} (h : BX N w W0 X t cs W) : BX N w W X t cs W := ⟨h.blk, h.bel, h.le, fun _ _ => rfl, rfl⟩
end Go.Proofs.YtgaegajcejpmdaaGreatDoor
namespace Go.Proofs.YtgaegajcejpmdaaGreatDoor
open Go.RowKit
set_option linter.unusedVariables false
set_option linter.unusedSimpArgs false

/-- What read leaves, of decimal's kinds. -/
def RnP (k : Int) (s : ByteArray) (w : World) (e : Ending) (w' : World) : Prop :=
  Below w.heap.size w w' ∧ match Dc.parS (Dc.bl s) with
  | .ok n => ∃ rv, e = .returned (.tuple #[vlV 10 ⟨#[]⟩ n.1 rv n.2.2 z0 sp0, .bool (cntB k (Dc.bl s) n)]) ∧ Dc.BtR w' rv n.2.1
  | .error _ => ∃ p t ng sl sc m q, e = .returned (.tuple #[vlV p t ng sl sc m q, .bool false]) ∧ Dc.BtR w' sl []
theorem pr10 {k : Int} (h0 : 10 ≤ k) (h1 : k ≤ 23) : prS k = 10 := by
  obtain ⟨n, rfl⟩ : ∃ n : Nat, k = n := ⟨k.toNat, by omega⟩
  rcases (by omega : n = 10 ∨ n = 11 ∨ n = 12 ∨ n = 13 ∨ n = 14 ∨ n = 15 ∨ n = 16 ∨ n = 17 ∨ n = 18 ∨ n = 19 ∨ n = 20 ∨ n = 21 ∨ n = 22 ∨ n = 23) with rfl | rfl | rfl | rfl | rfl | rfl | rfl | rfl | rfl | rfl | rfl | rfl | rfl | rfl <;> rfl
theorem prim10 (k : Int) (h0 : 10 ≤ k) (h1 : k ≤ 23) (w : World) : Calls Tryz.prog 15 #[.int .i64 k] w fun e w' => e = .returned (.int .i64 10) ∧ w' = w := by
  have := prim_k k w
  rwa [pr10 h0 h1] at this
theorem rng0 {W : World} {X : Nat} {t : TypeId} {cs : List Value} (h : W.heap[X]? = some (.cells cs.toArray t (0, 0))) : W.rangeAt X 0 cs := fun j v hv => by
  rw [row_cell h, Nat.zero_add]
  simpa using hv
theorem rng2 {W : World} {X : Nat} {t : TypeId} {a b c d e : Value} {cs : List Value} (h : W.heap[X]? = some (.cells (a :: b :: c :: d :: e :: cs).toArray t (0, 0))) : W.rangeAt X 2 [c, d, e] := fun j v hv => by
  rw [row_cell h]
  match j with
  | 0 => simpa using hv
  | 1 => simpa using hv
  | 2 => simpa using hv
  | j + 3 => simp at hv
/-- What a function leaves whose results are a value's box and a number or truth. -/
theorem res2 {W : World} {X : Nat} {cs : Array Value} {fn : Func} {p r : Tmp} {tmps : Array Value} (hf : fn.results = #[.cell p 40, .tmp r]) (hp : tmps.getD p undef = .pointer (some ⟨X, 0, none⟩)) (h : W.heap[X]? = some (.cells cs 40 (0, 0))) (hs : cs.size = 16) :
    (results fn tmps).run Tryz.prog W = .ok (.tuple #[.agg cs, tmps.getD r undef]) W := by
  have hl := run_loadVar_row (P := Tryz.prog) W X 40 40 cs (0, 0) _ h Tryz.underlying40 rfl (by rw [hs]; kernel_rfl)
  have hp' : tmps[p]?.getD undef = .pointer (some ⟨X, 0, none⟩) := by simpa using hp
  simp [results, hf, hp', asAddr, hl]
theorem btr_nil {w : World} {a : Option Addr} {cap : Nat} (h : cap ≤ maxLen) : Dc.BtR w (.slice a 0 cap) [] := ⟨a, cap, rfl, Nat.zero_le _, h, fun d hd => (by simp at hd), .inl rfl⟩
theorem par_err {l : List Int} {x : Int} (h : Dc.parS l = .error x) : x = 2 ∨ x = 3 := by
  unfold Dc.parS at h
  by_cases hl : 4096 < l.length
  · rw [if_pos hl] at h; right; exact (Except.error.inj h).symm
  · rw [if_neg hl] at h
    left
    cases hs : Dc.scS (Dc.sgS l).2 [] 0 false with
    | none => rw [hs] at h; exact (Except.error.inj h).symm
    | some r =>
      rw [hs] at h
      obtain ⟨b, s⟩ := r
      dsimp only at h
      by_cases hb : b = []
      · rw [if_pos hb] at h; exact (Except.error.inj h).symm
      · rw [if_neg hb] at h; cases h
end Go.Proofs.YtgaegajcejpmdaaGreatDoor
namespace Go.Proofs.YtgaegajcejpmdaaGreatDoor
open Go.RowKit
set_option linter.unusedVariables false
set_option linter.unusedSimpArgs false

set_option maxRecDepth 100000 in
set_option maxHeartbeats 6400000 in
theorem readN_ok {n : Dc.Nm} (k : Int) (s : ByteArray) (w : World) (hk0 : 10 ≤ k) (hk1 : k ≤ 23) (hs : s.size ≤ 100000) (hw : Lw w) (hq : Dc.parS (Dc.bl s) = .ok n) : Calls Tryz.prog 37 #[.int .i64 k, .string s] w (RnP k s w) := by
  have hbx := BX.new w 40 (vlL 10 ⟨#[]⟩ false (.slice none 0 0) 0 z0 sp0)
  have hpr := fun W => prim10 k hk0 hk1 W
  have hpa := fun W => Dc.parse_p s W (by unfold maxLen; omega)
  have HX : Hid _ := hbx
  clear hbx
  go_enter Tryz.func37, Tryz.ntmps37
  go_wp2_with (first | (go_at_call 15; refine (hpr _).mono ?_; rintro e w1 ⟨rfl, hw1⟩; have hw2 := hw1.symm; clear hw1; subst hw2))
  refine (hpa _).mono ?_
  rintro e w2 ⟨hb2, h2⟩
  have hbx2 := HX.out.below hb2
  rw [hq] at h2
  obtain ⟨rv, rfl, hbt⟩ := h2
  obtain ⟨va, vc, rfl, _⟩ := hbt.form
  obtain ⟨g0, g1, g2, g3, g4, g5, g6, g7, g8, g9, g10, g11, g12, g13, g14, g15⟩ := c16 hbx2.blk
  obtain ⟨f0, f1, f2, f3, f4, f5, f6, f7, f8, f9, f10, f11, f12, f13, f14, f15⟩ := f16 hbx2.blk
  have hbx3 := (((hbx2.set 2 (.bool n.1)).set 3 (.slice va n.2.1.length vc)).set 4 (.int .i64 n.2.2))
  have hbt3 := hbx3.btr hbt hbx2.blk (by intro u hu d e; subst e; simp at hu)
  have HBT : Hid (Dc.BtR _ _ _) := hbt3
  clear hbt3
  have HX3 : Hid _ := hbx3.of
  clear hbx3 hbx2 hbt hpa hpr HX hb2
  go_upto_region 13 with fail
  clear g0 g1 g2 g3 g4 g5 g6 g7 g8 g9 g10 g11 g12 g13 g14 g15 f0 f1 f2 f3 f4 f5 f6 f7 f8 f9 f10 f11 f12 f13 f14 f15
  generalize (((w2.setCell ⟨w.heap.size, 2, none⟩ (.bool n.1)).setCell ⟨w.heap.size, 3, none⟩ (.slice va n.2.1.length vc)).setCell ⟨w.heap.size, 4, none⟩ (.int .i64 n.2.2)) = W3 at *
  have hblk : W3.heap[w.heap.size]? = some (.cells [.int .i64 10, .string ⟨#[]⟩, .bool n.1, .slice va n.2.1.length vc, .int .i64 n.2.2, .int .i64 0, .int .i64 0, .int .i64 0, .int .i64 0, .int .i64 0, .int .i64 0, .bool false, .int .i64 0, .int .i64 0, .int .i64 0, .int .i64 0].toArray 40 (0, 0)) := HX3.out.blk
  have hlw := hw.below HX3.out.bel
  have hnr : Dc.NmR W3 (.slice va n.2.1.length vc) n := ⟨HBT.out, (Dc.par_ok hq).1, (Dc.par_ok hq).2.2.1⟩
  have qc := fun W (hW : Below W3.heap.size W3 W) => counted_p k s hk0 hk1 (hnr.below hW) hq (hlw.below hW)
  have HQ : Hid _ := qc
  have HQQ : Hid _ := hq
  clear qc hnr hlw hq hw hk0 hk1 hs
  generalize hcb : cntB k (Dc.bl s) n = cb at *
  have HCB : Hid _ := hcb
  clear hcb
  refine wp_region_held_drew (S := fun W => W.heap[w.heap.size]? = some (.cells [.int .i64 10, .string ⟨#[]⟩, .bool n.1, .slice va n.2.1.length vc, .int .i64 n.2.2, .int .i64 0, .int .i64 0, .int .i64 0, .int .i64 0, .int .i64 0, .int .i64 0, .bool false, .int .i64 0, .int .i64 0, .int .i64 0, .int .i64 0].toArray 40 (0, 0))) (by kernel_rfl) hblk (fun hHeld => ?_)
  refine wpAnyH_take (i := 0) (v := .agg #[.int .i64 10, .string ⟨#[]⟩, .bool n.1, .slice va n.2.1.length vc, .int .i64 n.2.2, .int .i64 0, .int .i64 0, .int .i64 0, .int .i64 0, .int .i64 0, .int .i64 0, .bool false, .int .i64 0, .int .i64 0, .int .i64 0, .int .i64 0]) rfl (by kernel_rfl) (by kernel_rfl) (by kernel_rfl) (fun _ _ _ h => h) (yieldsIf_load_mid (by kernel_rfl) 40 _ rfl w.heap.size 0 rfl [.int .i64 10, .string ⟨#[]⟩, .bool n.1, .slice va n.2.1.length vc, .int .i64 n.2.2, .int .i64 0, .int .i64 0, .int .i64 0, .int .i64 0, .int .i64 0, .int .i64 0, .bool false, .int .i64 0, .int .i64 0, .int .i64 0, .int .i64 0] _ (fun W hW => rng0 hW) Tryz.underlying40 rfl (by kernel_rfl)) (by assumption) ?_
  try simp only [Act.put, List.getElem_toArray, List.getElem_cons_zero, List.getElem_cons_succ, List.setIfInBounds_toArray, List.set_cons_zero, List.set_cons_succ]
  refine wpAnyH_take (i := 1) (v := (.int .i64 0)) rfl (by kernel_rfl) (by kernel_rfl) (by kernel_rfl) (fun _ _ _ h => h) (Or.inl ⟨by kernel_rfl, fun w' hSw => (by (try dsimp only at hSw); go_simp)⟩) (by assumption) ?_
  try simp only [Act.put, List.getElem_toArray, List.getElem_cons_zero, List.getElem_cons_succ, List.setIfInBounds_toArray, List.set_cons_zero, List.set_cons_succ]
  refine wpAnyH_take (i := 2) (v := (.bool true)) rfl (by kernel_rfl) (by kernel_rfl) (by kernel_rfl) (fun _ _ _ h => h) (Or.inl ⟨by kernel_rfl, fun w' hSw => (by (try dsimp only at hSw); go_simp)⟩) (by assumption) ?_
  try simp only [Act.put, List.getElem_toArray, List.getElem_cons_zero, List.getElem_cons_succ, List.setIfInBounds_toArray, List.set_cons_zero, List.set_cons_succ]
  refine wpAnyH_take (i := 3) (v := (.bool true)) rfl (by kernel_rfl) (by kernel_rfl) (by kernel_rfl) (fun _ _ _ h => h) (Or.inl ⟨by kernel_rfl, fun w' hSw => (by (try dsimp only at hSw); go_simp)⟩) (by assumption) ?_
  try simp only [Act.put, List.getElem_toArray, List.getElem_cons_zero, List.getElem_cons_succ, List.setIfInBounds_toArray, List.set_cons_zero, List.set_cons_succ]
  refine wpAnyH_take (i := 4) (v := (.int .i64 k)) rfl (by kernel_rfl) (by kernel_rfl) (by kernel_rfl) (fun _ _ _ h => h) (Or.inl ⟨by kernel_rfl, fun w' hSw => (by (try dsimp only at hSw); go_simp)⟩) (by assumption) ?_
  try simp only [Act.put, List.getElem_toArray, List.getElem_cons_zero, List.getElem_cons_succ, List.setIfInBounds_toArray, List.set_cons_zero, List.set_cons_succ]
  refine wpAnyH_take (i := 5) (v := (.string s)) rfl (by kernel_rfl) (by kernel_rfl) (by kernel_rfl) (fun _ _ _ h => h) (Or.inl ⟨by kernel_rfl, fun w' hSw => (by (try dsimp only at hSw); go_simp)⟩) (by assumption) ?_
  try simp only [Act.put, List.getElem_toArray, List.getElem_cons_zero, List.getElem_cons_succ, List.setIfInBounds_toArray, List.set_cons_zero, List.set_cons_succ]
  refine wpAnyH_take (i := 6) (v := (.pointer (some ⟨w.heap.size, 2, none⟩))) rfl (by kernel_rfl) (by kernel_rfl) (by kernel_rfl) (fun _ _ _ h => h) (Or.inl ⟨by kernel_rfl, fun w' hSw => (by (try dsimp only at hSw); go_simp)⟩) (by assumption) ?_
  try simp only [Act.put, List.getElem_toArray, List.getElem_cons_zero, List.getElem_cons_succ, List.setIfInBounds_toArray, List.set_cons_zero, List.set_cons_succ]
  refine wpAnyH_take (i := 7) (v := .agg #[.bool n.1, .slice va n.2.1.length vc, .int .i64 n.2.2]) rfl (by kernel_rfl) (by kernel_rfl) (by kernel_rfl) (fun _ _ _ h => h) (yieldsIf_load_mid (by kernel_rfl) 34 _ rfl w.heap.size 2 rfl [.bool n.1, .slice va n.2.1.length vc, .int .i64 n.2.2] _ (fun W hW => rng2 hW) Tryz.underlying34 rfl (by kernel_rfl)) (by assumption) ?_
  try simp only [Act.put, List.getElem_toArray, List.getElem_cons_zero, List.getElem_cons_succ, List.setIfInBounds_toArray, List.set_cons_zero, List.set_cons_succ]
  refine wpAnyH_ready (rs := [8]) (by kernel_rfl) (by simp) ?_
  refine AllReadyH.cons rfl (fun K hK => ?_) AllReadyH.nil
  go_simp
  refine Calls.mono (HQ.out _ (Dc.Below.drewN' 1)) ?_
  rintro e w9 ⟨rfl, hb9⟩
  have hbb : Below W3.heap.size W3 w9 := (Dc.Below.drewN' 1).trans hb9
  have hblk9 := (hbb.block _ (Dc.lt_of hblk)).trans hblk
  have HB9 : Hid _ := hbb
  clear hbb hb9 hHeld
  go_wp2_with fail
  refine hK.out _ _ hblk9 (fun hHeld => ?_)
  clear hK K
  try simp only [Act.put, List.getElem_toArray, List.getElem_cons_zero, List.getElem_cons_succ, List.setIfInBounds_toArray, List.set_cons_zero, List.set_cons_succ]
  refine wpAnyH_take (i := 9) (v := (.bool cb)) rfl (by kernel_rfl) (by kernel_rfl) (by kernel_rfl) (fun _ _ _ h => h) (Or.inl ⟨by kernel_rfl, fun w' hSw => (by (try dsimp only at hSw); go_simp)⟩) (by assumption) ?_
  try simp only [Act.put, List.getElem_toArray, List.getElem_cons_zero, List.getElem_cons_succ, List.setIfInBounds_toArray, List.set_cons_zero, List.set_cons_succ]
  refine wpAnyH_ready (rs := [10]) (by kernel_rfl) (by simp) ?_
  refine AllReadyH.cons rfl (fun K hK => ?_) AllReadyH.nil
  rw [if_pos (by kernel_rfl)]
  refine wp_store_row 40 _ _ rfl w.heap.size _ rfl rfl 40 _ hHeld (by kernel_rfl) rfl (by simp [Value.oneCell']) ?_
  rw [setRow_self _ _ _ _ _ hHeld]
  refine hK.out _ _ hHeld (fun hHeld => ?_)
  clear hK K
  try simp only [Act.put, List.getElem_toArray, List.getElem_cons_zero, List.getElem_cons_succ, List.setIfInBounds_toArray, List.set_cons_zero, List.set_cons_succ]
  refine wpAnyH_take (i := 11) (v := (.bool cb)) rfl (by kernel_rfl) (by kernel_rfl) (by kernel_rfl) (fun _ _ _ h => h) (Or.inl ⟨by kernel_rfl, fun w' hSw => (by (try dsimp only at hSw); go_simp)⟩) (by assumption) ?_
  try simp only [Act.put, List.getElem_toArray, List.getElem_cons_zero, List.getElem_cons_succ, List.setIfInBounds_toArray, List.set_cons_zero, List.set_cons_succ]
  refine wpAnyH_done (by kernel_rfl) ?_ _
  have HY : Hid _ := And.intro (HX3.out.bel.trans (HB9.out.mono HX3.out.lsz)) (Dc.BtR.below (show Dc.BtR W3 (.slice va n.2.1.length vc) n.2.1 from HBT.out) HB9.out)
  have HHe : Hid _ := hHeld
  clear hHeld hblk9 hblk
  go_wp2_with fail
  exact bodyPost_ret (v := .tuple #[vlV 10 ⟨#[]⟩ n.1 (.slice va n.2.1.length vc) n.2.2 z0 sp0, .bool cb]) (by refine (res2 (X := w.heap.size) Tryz.results37 ?_ HHe.out rfl).trans ?_ <;> rfl) rfl ⟨HY.out.1, by rw [HQQ.out]; exact ⟨_, by rw [HCB.out], HY.out.2⟩⟩
end Go.Proofs.YtgaegajcejpmdaaGreatDoor
namespace Go.Proofs.YtgaegajcejpmdaaGreatDoor
open Go.RowKit
set_option linter.unusedVariables false
set_option linter.unusedSimpArgs false

set_option maxRecDepth 100000 in
set_option maxHeartbeats 6400000 in
theorem readN_err {x : Int} (k : Int) (s : ByteArray) (w : World) (hk0 : 10 ≤ k) (hk1 : k ≤ 23) (hs : s.size ≤ 100000) (hq : Dc.parS (Dc.bl s) = .error x) : Calls Tryz.prog 37 #[.int .i64 k, .string s] w (RnP k s w) := by
  have hbx := BX.new w 40 (vlL 10 ⟨#[]⟩ false (.slice none 0 0) 0 z0 sp0)
  have hpr := fun W => prim10 k hk0 hk1 W
  have hpa := fun W => Dc.parse_p s W (by unfold maxLen; omega)
  have hx0 : (x == 0) = false := by rcases par_err hq with rfl | rfl <;> rfl
  have HX : Hid _ := hbx
  clear hbx
  go_enter Tryz.func37, Tryz.ntmps37
  go_wp2_with (first | (go_at_call 15; refine (hpr _).mono ?_; rintro e w1 ⟨rfl, hw1⟩; have hw2 := hw1.symm; clear hw1; subst hw2))
  refine (hpa _).mono ?_
  rintro e w2 ⟨hb2, h2⟩
  have hbx2 := HX.out.below hb2
  rw [hq] at h2
  obtain ⟨v0, rfl, hbt⟩ := h2
  obtain ⟨va, vc, hv0, _, hvc⟩ := hbt.form
  simp only [List.length_nil] at hv0
  subst hv0
  obtain ⟨g0, g1, g2, g3, g4, g5, g6, g7, g8, g9, g10, g11, g12, g13, g14, g15⟩ := c16 hbx2.blk
  obtain ⟨f0, f1, f2, f3, f4, f5, f6, f7, f8, f9, f10, f11, f12, f13, f14, f15⟩ := f16 hbx2.blk
  have hbx3 := (((hbx2.set 2 (.bool false)).set 3 (.slice va 0 vc)).set 4 (.int .i64 0))
  have HX3 : Hid _ := hbx3.of
  clear hbx3 hbx2 hbt hpa hpr HX hb2
  go_upto_region 13 with fail
  clear g0 g1 g2 g3 g4 g5 g6 g7 g8 g9 g10 g11 g12 g13 g14 g15 f0 f1 f2 f3 f4 f5 f6 f7 f8 f9 f10 f11 f12 f13 f14 f15
  generalize (((w2.setCell ⟨w.heap.size, 2, none⟩ (.bool false)).setCell ⟨w.heap.size, 3, none⟩ (.slice va 0 vc)).setCell ⟨w.heap.size, 4, none⟩ (.int .i64 0)) = W3 at *
  have hblk : W3.heap[w.heap.size]? = some (.cells [.int .i64 10, .string ⟨#[]⟩, .bool false, .slice va 0 vc, .int .i64 0, .int .i64 0, .int .i64 0, .int .i64 0, .int .i64 0, .int .i64 0, .int .i64 0, .bool false, .int .i64 0, .int .i64 0, .int .i64 0, .int .i64 0].toArray 40 (0, 0)) := HX3.out.blk
  have HQQ : Hid _ := hq
  clear hq hk0 hk1 hs
  refine wp_region_held_drew (S := fun W => W.heap[w.heap.size]? = some (.cells [.int .i64 10, .string ⟨#[]⟩, .bool false, .slice va 0 vc, .int .i64 0, .int .i64 0, .int .i64 0, .int .i64 0, .int .i64 0, .int .i64 0, .int .i64 0, .bool false, .int .i64 0, .int .i64 0, .int .i64 0, .int .i64 0].toArray 40 (0, 0))) (by kernel_rfl) hblk (fun hHeld => ?_)
  refine wpAnyH_take (i := 0) (v := .agg #[.int .i64 10, .string ⟨#[]⟩, .bool false, .slice va 0 vc, .int .i64 0, .int .i64 0, .int .i64 0, .int .i64 0, .int .i64 0, .int .i64 0, .int .i64 0, .bool false, .int .i64 0, .int .i64 0, .int .i64 0, .int .i64 0]) rfl (by kernel_rfl) (by kernel_rfl) (by kernel_rfl) (fun _ _ _ h => h) (yieldsIf_load_mid (by kernel_rfl) 40 _ rfl w.heap.size 0 rfl [.int .i64 10, .string ⟨#[]⟩, .bool false, .slice va 0 vc, .int .i64 0, .int .i64 0, .int .i64 0, .int .i64 0, .int .i64 0, .int .i64 0, .int .i64 0, .bool false, .int .i64 0, .int .i64 0, .int .i64 0, .int .i64 0] _ (fun W hW => rng0 hW) Tryz.underlying40 rfl (by kernel_rfl)) (by assumption) ?_
  try simp only [Act.put, List.getElem_toArray, List.getElem_cons_zero, List.getElem_cons_succ, List.setIfInBounds_toArray, List.set_cons_zero, List.set_cons_succ]
  refine wpAnyH_take (i := 1) (v := (.int .i64 x)) rfl (by kernel_rfl) (by kernel_rfl) (by kernel_rfl) (fun _ _ _ h => h) (Or.inl ⟨by kernel_rfl, fun w' hSw => (by (try dsimp only at hSw); go_simp)⟩) (by assumption) ?_
  try simp only [Act.put, List.getElem_toArray, List.getElem_cons_zero, List.getElem_cons_succ, List.setIfInBounds_toArray, List.set_cons_zero, List.set_cons_succ]
  refine wpAnyH_take (i := 2) (v := (.bool false)) rfl (by kernel_rfl) (by kernel_rfl) (by kernel_rfl) (fun _ _ _ h => h) (Or.inl ⟨by kernel_rfl, fun w' hSw => (by (try dsimp only at hSw); go_simp)⟩) (by assumption) ?_
  try simp only [Act.put, List.getElem_toArray, List.getElem_cons_zero, List.getElem_cons_succ, List.setIfInBounds_toArray, List.set_cons_zero, List.set_cons_succ]
  refine wpAnyH_take (i := 3) (v := (.bool false)) rfl (by kernel_rfl) (by kernel_rfl) (by kernel_rfl) (fun _ _ _ h => h) (Or.inl ⟨by kernel_rfl, fun w' hSw => (by (try dsimp only at hSw); go_simp)⟩) (by assumption) ?_
  try simp only [Act.put, List.getElem_toArray, List.getElem_cons_zero, List.getElem_cons_succ, List.setIfInBounds_toArray, List.set_cons_zero, List.set_cons_succ]
  refine wpAnyH_take (i := 4) (v := undef) rfl (by kernel_rfl) (by kernel_rfl) (by kernel_rfl) (fun _ _ _ h => h) (Or.inr ⟨by kernel_rfl, rfl⟩) (by assumption) ?_
  try simp only [Act.put, List.getElem_toArray, List.getElem_cons_zero, List.getElem_cons_succ, List.setIfInBounds_toArray, List.set_cons_zero, List.set_cons_succ]
  refine wpAnyH_take (i := 5) (v := undef) rfl (by kernel_rfl) (by kernel_rfl) (by kernel_rfl) (fun _ _ _ h => h) (Or.inr ⟨by kernel_rfl, rfl⟩) (by assumption) ?_
  try simp only [Act.put, List.getElem_toArray, List.getElem_cons_zero, List.getElem_cons_succ, List.setIfInBounds_toArray, List.set_cons_zero, List.set_cons_succ]
  refine wpAnyH_take (i := 6) (v := undef) rfl (by kernel_rfl) (by kernel_rfl) (by kernel_rfl) (fun _ _ _ h => h) (Or.inr ⟨by kernel_rfl, rfl⟩) (by assumption) ?_
  try simp only [Act.put, List.getElem_toArray, List.getElem_cons_zero, List.getElem_cons_succ, List.setIfInBounds_toArray, List.set_cons_zero, List.set_cons_succ]
  refine wpAnyH_take (i := 7) (v := undef) rfl (by kernel_rfl) (by kernel_rfl) (by kernel_rfl) (fun _ _ _ h => h) (Or.inr ⟨by kernel_rfl, rfl⟩) (by assumption) ?_
  try simp only [Act.put, List.getElem_toArray, List.getElem_cons_zero, List.getElem_cons_succ, List.setIfInBounds_toArray, List.set_cons_zero, List.set_cons_succ]
  refine wpAnyH_take (i := 8) (v := undef) rfl (by kernel_rfl) (by kernel_rfl) (by kernel_rfl) (fun _ _ _ h => h) (Or.inr ⟨by kernel_rfl, rfl⟩) (by assumption) ?_
  try simp only [Act.put, List.getElem_toArray, List.getElem_cons_zero, List.getElem_cons_succ, List.setIfInBounds_toArray, List.set_cons_zero, List.set_cons_succ]
  refine wpAnyH_take (i := 9) (v := (.bool false)) rfl (by kernel_rfl) (by kernel_rfl) (by kernel_rfl) (fun _ _ _ h => h) (Or.inl ⟨by kernel_rfl, fun w' hSw => (by (try dsimp only at hSw); go_simp)⟩) (by assumption) ?_
  try simp only [Act.put, List.getElem_toArray, List.getElem_cons_zero, List.getElem_cons_succ, List.setIfInBounds_toArray, List.set_cons_zero, List.set_cons_succ]
  refine wpAnyH_ready (rs := [10]) (by kernel_rfl) (by simp) ?_
  refine AllReadyH.cons rfl (fun K hK => ?_) AllReadyH.nil
  rw [if_pos (by kernel_rfl)]
  refine wp_store_row 40 _ _ rfl w.heap.size _ rfl rfl 40 _ hHeld (by kernel_rfl) rfl (by simp [Value.oneCell']) ?_
  rw [setRow_self _ _ _ _ _ hHeld]
  refine hK.out _ _ hHeld (fun hHeld => ?_)
  clear hK K
  try simp only [Act.put, List.getElem_toArray, List.getElem_cons_zero, List.getElem_cons_succ, List.setIfInBounds_toArray, List.set_cons_zero, List.set_cons_succ]
  refine wpAnyH_take (i := 11) (v := (.bool false)) rfl (by kernel_rfl) (by kernel_rfl) (by kernel_rfl) (fun _ _ _ h => h) (Or.inl ⟨by kernel_rfl, fun w' hSw => (by (try dsimp only at hSw); go_simp)⟩) (by assumption) ?_
  try simp only [Act.put, List.getElem_toArray, List.getElem_cons_zero, List.getElem_cons_succ, List.setIfInBounds_toArray, List.set_cons_zero, List.set_cons_succ]
  refine wpAnyH_done (by kernel_rfl) ?_ _
  have HY : Hid _ := HX3.out.bel.trans ((Dc.Below.drewN' 1).mono HX3.out.lsz)
  have HHe : Hid _ := hHeld
  clear hHeld hblk
  go_wp2_with fail
  exact bodyPost_ret (v := .tuple #[vlV 10 ⟨#[]⟩ false (.slice va 0 vc) 0 z0 sp0, .bool false]) (by refine (res2 (X := w.heap.size) Tryz.results37 ?_ HHe.out rfl).trans ?_ <;> rfl) rfl ⟨HY.out, by rw [HQQ.out]; exact ⟨_, _, _, _, _, _, _, rfl, btr_nil hvc⟩⟩
end Go.Proofs.YtgaegajcejpmdaaGreatDoor
