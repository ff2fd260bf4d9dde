/- The program: how many bits a kind has, what the library's ParseInt and ParseUint say of a number's text, Contains at a point, counted. -/
import Derived.Test.YtgaegajcejpmdaaGreatDoorHJ21
import Derived.Test.YtgaegajcejpmdaaGreatDoorHK6
import Derived.Test.YtgaegajcejpmdaaGreatDoorHDcD7
import Derived.Test.YtgaegajcejpmdaaGreatDoorHDcD8
import Derived.Lib.ParseIntBMem
namespace Go.Proofs.YtgaegajcejpmdaaGreatDoor
open Go.RowKit
set_option linter.unusedVariables false
set_option linter.unusedSimpArgs false

theorem sb_size (l : List Int) : (Dc.sb l).size = l.length := by simp [Dc.sb, ByteArray.size]
theorem tx_size {n : Dc.Nm} (h0 : n.2.2 = 0) (hl : n.2.1.length ≤ 4096) : (Dc.sb (Dc.txS n)).size ≤ 4097 := by
  rw [sb_size, tx_whole h0]
  cases n.1 <;> simp <;> omega
theorem pi8_ok {n : Dc.Nm} (h : Dc.CN n) (h0 : n.2.2 = 0) (hl : n.2.1.length ≤ 4096) (hr : -128 ≤ Dc.nv n 0 ∧ Dc.nv n 0 ≤ 127) (w : World) : Calls Tryz.prog 110 #[.string (Dc.sb (Dc.txS n)), .int .i64 10, .int .i64 8] w fun e w' => e = .returned (.tuple #[.int .i64 (Dc.nv n 0), .nilIface]) ∧ Below w.heap.size w w' := by
  refine (Tryz.strconv_ParseInt_10_at8_ok _ (by have := tx_size h0 hl; omega) _ ((pi_tx h h0 8 (by decide) 128 (by decide) (by decide) (by decide)).1 (by omega)) w).mono ?_
  rintro e w' ⟨rfl, rfl | ⟨t, rfl⟩⟩
  · exact ⟨rfl, Below.refl _ _⟩
  · exact ⟨rfl, Lib.bytesWorld_below _ _ _⟩
theorem pi8_no {n : Dc.Nm} (h : Dc.CN n) (h0 : n.2.2 = 0) (hl : n.2.1.length ≤ 4096) (hr : ¬ (-128 ≤ Dc.nv n 0 ∧ Dc.nv n 0 ≤ 127)) (w : World) (hw : Lw w) : Calls Tryz.prog 110 #[.string (Dc.sb (Dc.txS n)), .int .i64 10, .int .i64 8] w fun e w' => ∃ x N, e = .returned (.tuple #[.int .i64 x, .iface 179 (.pointer (some ⟨N, 0, none⟩))]) ∧ Below w.heap.size w w' := by
  obtain ⟨tp, p, hv⟩ := hw.er
  refine (Tryz.strconv_ParseInt_10_at8_range_var _ (by have := tx_size h0 hl; omega) ((pi_tx h h0 8 (by decide) 128 (by decide) (by decide) (by decide)).2 (by omega)) tp p w hv).mono ?_
  rintro e w' ⟨N, rfl, _, _, hb⟩
  exact ⟨_, N, rfl, hb⟩
theorem pu8_ok {n : Dc.Nm} (h : Dc.CN n) (h0 : n.2.2 = 0) (hl : n.2.1.length ≤ 4096) (hr : 0 ≤ Dc.nv n 0 ∧ Dc.nv n 0 ≤ 255) (w : World) : Calls Tryz.prog 112 #[.string (Dc.sb (Dc.txS n)), .int .i64 10, .int .i64 8] w fun e w' => ∃ x, e = .returned (.tuple #[.int .u64 x, .nilIface]) ∧ Below w.heap.size w w' := by
  have hp := pu_tx h h0 8 (by decide)
  rw [if_neg (by omega), if_pos (by show Dc.nv n 0 ≤ ((255 : Nat) : Int); omega)] at hp
  refine (Tryz.strconv_ParseUint_10_at8_ok _ (by have := tx_size h0 hl; omega) _ hp w).mono ?_
  rintro e w' ⟨rfl, rfl | rfl⟩
  · exact ⟨_, rfl, Below.refl _ _⟩
  · exact ⟨_, rfl, Lib.bytesWorld_below _ _ _⟩
theorem pu8_no {n : Dc.Nm} (h : Dc.CN n) (h0 : n.2.2 = 0) (hl : n.2.1.length ≤ 4096) (hr : ¬ (0 ≤ Dc.nv n 0 ∧ Dc.nv n 0 ≤ 255)) (w : World) (hw : Lw w) : Calls Tryz.prog 112 #[.string (Dc.sb (Dc.txS n)), .int .i64 10, .int .i64 8] w fun e w' => ∃ x N, e = .returned (.tuple #[.int .u64 x, .iface 179 (.pointer (some ⟨N, 0, none⟩))]) ∧ Below w.heap.size w w' := by
  obtain ⟨tp, p, hv⟩ := hw.er
  obtain ⟨tq, q, hv2⟩ := hw.es
  have hp := pu_tx h h0 8 (by decide)
  by_cases hn : Dc.nv n 0 < 0
  · rw [if_pos hn] at hp
    refine (Tryz.strconv_ParseUint_10_at8_syntax_var _ (by have := tx_size h0 hl; omega) hp tq q w hv2).mono ?_
    rintro e w' ⟨N, rfl, _, _, hb⟩
    exact ⟨_, N, rfl, hb⟩
  · rw [if_neg hn, if_neg (by show ¬ (Dc.nv n 0 ≤ ((255 : Nat) : Int)); omega)] at hp
    refine (Tryz.strconv_ParseUint_10_at8_range_var _ (by have := tx_size h0 hl; omega) hp tp p w hv).mono ?_
    rintro e w' ⟨N, rfl, _, _, hb⟩
    exact ⟨_, N, rfl, hb⟩
theorem pi16_ok {n : Dc.Nm} (h : Dc.CN n) (h0 : n.2.2 = 0) (hl : n.2.1.length ≤ 4096) (hr : -32768 ≤ Dc.nv n 0 ∧ Dc.nv n 0 ≤ 32767) (w : World) : Calls Tryz.prog 110 #[.string (Dc.sb (Dc.txS n)), .int .i64 10, .int .i64 16] w fun e w' => e = .returned (.tuple #[.int .i64 (Dc.nv n 0), .nilIface]) ∧ Below w.heap.size w w' := by
  refine (Tryz.strconv_ParseInt_10_at16_ok _ (by have := tx_size h0 hl; omega) _ ((pi_tx h h0 16 (by decide) 32768 (by decide) (by decide) (by decide)).1 (by omega)) w).mono ?_
  rintro e w' ⟨rfl, rfl | ⟨t, rfl⟩⟩
  · exact ⟨rfl, Below.refl _ _⟩
  · exact ⟨rfl, Lib.bytesWorld_below _ _ _⟩
theorem pi16_no {n : Dc.Nm} (h : Dc.CN n) (h0 : n.2.2 = 0) (hl : n.2.1.length ≤ 4096) (hr : ¬ (-32768 ≤ Dc.nv n 0 ∧ Dc.nv n 0 ≤ 32767)) (w : World) (hw : Lw w) : Calls Tryz.prog 110 #[.string (Dc.sb (Dc.txS n)), .int .i64 10, .int .i64 16] w fun e w' => ∃ x N, e = .returned (.tuple #[.int .i64 x, .iface 179 (.pointer (some ⟨N, 0, none⟩))]) ∧ Below w.heap.size w w' := by
  obtain ⟨tp, p, hv⟩ := hw.er
  refine (Tryz.strconv_ParseInt_10_at16_range_var _ (by have := tx_size h0 hl; omega) ((pi_tx h h0 16 (by decide) 32768 (by decide) (by decide) (by decide)).2 (by omega)) tp p w hv).mono ?_
  rintro e w' ⟨N, rfl, _, _, hb⟩
  exact ⟨_, N, rfl, hb⟩
theorem pu16_ok {n : Dc.Nm} (h : Dc.CN n) (h0 : n.2.2 = 0) (hl : n.2.1.length ≤ 4096) (hr : 0 ≤ Dc.nv n 0 ∧ Dc.nv n 0 ≤ 65535) (w : World) : Calls Tryz.prog 112 #[.string (Dc.sb (Dc.txS n)), .int .i64 10, .int .i64 16] w fun e w' => ∃ x, e = .returned (.tuple #[.int .u64 x, .nilIface]) ∧ Below w.heap.size w w' := by
  have hp := pu_tx h h0 16 (by decide)
  rw [if_neg (by omega), if_pos (by show Dc.nv n 0 ≤ ((65535 : Nat) : Int); omega)] at hp
  refine (Tryz.strconv_ParseUint_10_at16_ok _ (by have := tx_size h0 hl; omega) _ hp w).mono ?_
  rintro e w' ⟨rfl, rfl | rfl⟩
  · exact ⟨_, rfl, Below.refl _ _⟩
  · exact ⟨_, rfl, Lib.bytesWorld_below _ _ _⟩
theorem pu16_no {n : Dc.Nm} (h : Dc.CN n) (h0 : n.2.2 = 0) (hl : n.2.1.length ≤ 4096) (hr : ¬ (0 ≤ Dc.nv n 0 ∧ Dc.nv n 0 ≤ 65535)) (w : World) (hw : Lw w) : Calls Tryz.prog 112 #[.string (Dc.sb (Dc.txS n)), .int .i64 10, .int .i64 16] w fun e w' => ∃ x N, e = .returned (.tuple #[.int .u64 x, .iface 179 (.pointer (some ⟨N, 0, none⟩))]) ∧ Below w.heap.size w w' := by
  obtain ⟨tp, p, hv⟩ := hw.er
  obtain ⟨tq, q, hv2⟩ := hw.es
  have hp := pu_tx h h0 16 (by decide)
  by_cases hn : Dc.nv n 0 < 0
  · rw [if_pos hn] at hp
    refine (Tryz.strconv_ParseUint_10_at16_syntax_var _ (by have := tx_size h0 hl; omega) hp tq q w hv2).mono ?_
    rintro e w' ⟨N, rfl, _, _, hb⟩
    exact ⟨_, N, rfl, hb⟩
  · rw [if_neg hn, if_neg (by show ¬ (Dc.nv n 0 ≤ ((65535 : Nat) : Int)); omega)] at hp
    refine (Tryz.strconv_ParseUint_10_at16_range_var _ (by have := tx_size h0 hl; omega) hp tp p w hv).mono ?_
    rintro e w' ⟨N, rfl, _, _, hb⟩
    exact ⟨_, N, rfl, hb⟩
theorem pi32_ok {n : Dc.Nm} (h : Dc.CN n) (h0 : n.2.2 = 0) (hl : n.2.1.length ≤ 4096) (hr : -2147483648 ≤ Dc.nv n 0 ∧ Dc.nv n 0 ≤ 2147483647) (w : World) : Calls Tryz.prog 110 #[.string (Dc.sb (Dc.txS n)), .int .i64 10, .int .i64 32] w fun e w' => e = .returned (.tuple #[.int .i64 (Dc.nv n 0), .nilIface]) ∧ Below w.heap.size w w' := by
  refine (Tryz.strconv_ParseInt_10_at32_ok _ (by have := tx_size h0 hl; omega) _ ((pi_tx h h0 32 (by decide) 2147483648 (by decide) (by decide) (by decide)).1 (by omega)) w).mono ?_
  rintro e w' ⟨rfl, rfl | ⟨t, rfl⟩⟩
  · exact ⟨rfl, Below.refl _ _⟩
  · exact ⟨rfl, Lib.bytesWorld_below _ _ _⟩
theorem pi32_no {n : Dc.Nm} (h : Dc.CN n) (h0 : n.2.2 = 0) (hl : n.2.1.length ≤ 4096) (hr : ¬ (-2147483648 ≤ Dc.nv n 0 ∧ Dc.nv n 0 ≤ 2147483647)) (w : World) (hw : Lw w) : Calls Tryz.prog 110 #[.string (Dc.sb (Dc.txS n)), .int .i64 10, .int .i64 32] w fun e w' => ∃ x N, e = .returned (.tuple #[.int .i64 x, .iface 179 (.pointer (some ⟨N, 0, none⟩))]) ∧ Below w.heap.size w w' := by
  obtain ⟨tp, p, hv⟩ := hw.er
  refine (Tryz.strconv_ParseInt_10_at32_range_var _ (by have := tx_size h0 hl; omega) ((pi_tx h h0 32 (by decide) 2147483648 (by decide) (by decide) (by decide)).2 (by omega)) tp p w hv).mono ?_
  rintro e w' ⟨N, rfl, _, _, hb⟩
  exact ⟨_, N, rfl, hb⟩
theorem pu32_ok {n : Dc.Nm} (h : Dc.CN n) (h0 : n.2.2 = 0) (hl : n.2.1.length ≤ 4096) (hr : 0 ≤ Dc.nv n 0 ∧ Dc.nv n 0 ≤ 4294967295) (w : World) : Calls Tryz.prog 112 #[.string (Dc.sb (Dc.txS n)), .int .i64 10, .int .i64 32] w fun e w' => ∃ x, e = .returned (.tuple #[.int .u64 x, .nilIface]) ∧ Below w.heap.size w w' := by
  have hp := pu_tx h h0 32 (by decide)
  rw [if_neg (by omega), if_pos (by show Dc.nv n 0 ≤ ((4294967295 : Nat) : Int); omega)] at hp
  refine (Tryz.strconv_ParseUint_10_at32_ok _ (by have := tx_size h0 hl; omega) _ hp w).mono ?_
  rintro e w' ⟨rfl, rfl | rfl⟩
  · exact ⟨_, rfl, Below.refl _ _⟩
  · exact ⟨_, rfl, Lib.bytesWorld_below _ _ _⟩
theorem pu32_no {n : Dc.Nm} (h : Dc.CN n) (h0 : n.2.2 = 0) (hl : n.2.1.length ≤ 4096) (hr : ¬ (0 ≤ Dc.nv n 0 ∧ Dc.nv n 0 ≤ 4294967295)) (w : World) (hw : Lw w) : Calls Tryz.prog 112 #[.string (Dc.sb (Dc.txS n)), .int .i64 10, .int .i64 32] w fun e w' => ∃ x N, e = .returned (.tuple #[.int .u64 x, .iface 179 (.pointer (some ⟨N, 0, none⟩))]) ∧ Below w.heap.size w w' := by
  obtain ⟨tp, p, hv⟩ := hw.er
  obtain ⟨tq, q, hv2⟩ := hw.es
  have hp := pu_tx h h0 32 (by decide)
  by_cases hn : Dc.nv n 0 < 0
  · rw [if_pos hn] at hp
    refine (Tryz.strconv_ParseUint_10_at32_syntax_var _ (by have := tx_size h0 hl; omega) hp tq q w hv2).mono ?_
    rintro e w' ⟨N, rfl, _, _, hb⟩
    exact ⟨_, N, rfl, hb⟩
  · rw [if_neg hn, if_neg (by show ¬ (Dc.nv n 0 ≤ ((4294967295 : Nat) : Int)); omega)] at hp
    refine (Tryz.strconv_ParseUint_10_at32_range_var _ (by have := tx_size h0 hl; omega) hp tp p w hv).mono ?_
    rintro e w' ⟨N, rfl, _, _, hb⟩
    exact ⟨_, N, rfl, hb⟩
theorem pi64_ok {n : Dc.Nm} (h : Dc.CN n) (h0 : n.2.2 = 0) (hl : n.2.1.length ≤ 4096) (hr : -9223372036854775808 ≤ Dc.nv n 0 ∧ Dc.nv n 0 ≤ 9223372036854775807) (w : World) : Calls Tryz.prog 110 #[.string (Dc.sb (Dc.txS n)), .int .i64 10, .int .i64 64] w fun e w' => e = .returned (.tuple #[.int .i64 (Dc.nv n 0), .nilIface]) ∧ Below w.heap.size w w' := by
  refine (Tryz.strconv_ParseInt_10_at64_ok _ (by have := tx_size h0 hl; omega) _ ((pi_tx h h0 64 (by decide) 9223372036854775808 (by decide) (by decide) (by decide)).1 (by omega)) w).mono ?_
  rintro e w' ⟨rfl, rfl | ⟨t, rfl⟩⟩
  · exact ⟨rfl, Below.refl _ _⟩
  · exact ⟨rfl, Lib.bytesWorld_below _ _ _⟩
theorem pi64_no {n : Dc.Nm} (h : Dc.CN n) (h0 : n.2.2 = 0) (hl : n.2.1.length ≤ 4096) (hr : ¬ (-9223372036854775808 ≤ Dc.nv n 0 ∧ Dc.nv n 0 ≤ 9223372036854775807)) (w : World) (hw : Lw w) : Calls Tryz.prog 110 #[.string (Dc.sb (Dc.txS n)), .int .i64 10, .int .i64 64] w fun e w' => ∃ x N, e = .returned (.tuple #[.int .i64 x, .iface 179 (.pointer (some ⟨N, 0, none⟩))]) ∧ Below w.heap.size w w' := by
  obtain ⟨tp, p, hv⟩ := hw.er
  refine (Tryz.strconv_ParseInt_10_at64_range_var _ (by have := tx_size h0 hl; omega) ((pi_tx h h0 64 (by decide) 9223372036854775808 (by decide) (by decide) (by decide)).2 (by omega)) tp p w hv).mono ?_
  rintro e w' ⟨N, rfl, _, _, hb⟩
  exact ⟨_, N, rfl, hb⟩
theorem pu64_ok {n : Dc.Nm} (h : Dc.CN n) (h0 : n.2.2 = 0) (hl : n.2.1.length ≤ 4096) (hr : 0 ≤ Dc.nv n 0 ∧ Dc.nv n 0 ≤ 18446744073709551615) (w : World) : Calls Tryz.prog 112 #[.string (Dc.sb (Dc.txS n)), .int .i64 10, .int .i64 64] w fun e w' => ∃ x, e = .returned (.tuple #[.int .u64 x, .nilIface]) ∧ Below w.heap.size w w' := by
  have hp := pu_tx h h0 64 (by decide)
  rw [if_neg (by omega), if_pos (by show Dc.nv n 0 ≤ ((18446744073709551615 : Nat) : Int); omega)] at hp
  refine (Tryz.strconv_ParseUint_10_at64_ok _ (by have := tx_size h0 hl; omega) _ hp w).mono ?_
  rintro e w' ⟨rfl, rfl | rfl⟩
  · exact ⟨_, rfl, Below.refl _ _⟩
  · exact ⟨_, rfl, Lib.bytesWorld_below _ _ _⟩
theorem pu64_no {n : Dc.Nm} (h : Dc.CN n) (h0 : n.2.2 = 0) (hl : n.2.1.length ≤ 4096) (hr : ¬ (0 ≤ Dc.nv n 0 ∧ Dc.nv n 0 ≤ 18446744073709551615)) (w : World) (hw : Lw w) : Calls Tryz.prog 112 #[.string (Dc.sb (Dc.txS n)), .int .i64 10, .int .i64 64] w fun e w' => ∃ x N, e = .returned (.tuple #[.int .u64 x, .iface 179 (.pointer (some ⟨N, 0, none⟩))]) ∧ Below w.heap.size w w' := by
  obtain ⟨tp, p, hv⟩ := hw.er
  obtain ⟨tq, q, hv2⟩ := hw.es
  have hp := pu_tx h h0 64 (by decide)
  by_cases hn : Dc.nv n 0 < 0
  · rw [if_pos hn] at hp
    refine (Tryz.strconv_ParseUint_10_at64_syntax_var _ (by have := tx_size h0 hl; omega) hp tq q w hv2).mono ?_
    rintro e w' ⟨N, rfl, _, _, hb⟩
    exact ⟨_, N, rfl, hb⟩
  · rw [if_neg hn, if_neg (by show ¬ (Dc.nv n 0 ≤ ((18446744073709551615 : Nat) : Int)); omega)] at hp
    refine (Tryz.strconv_ParseUint_10_at64_range_var _ (by have := tx_size h0 hl; omega) hp tp p w hv).mono ?_
    rintro e w' ⟨N, rfl, _, _, hb⟩
    exact ⟨_, N, rfl, hb⟩
theorem contains_p (s : ByteArray) (w : World) : Calls Tryz.prog 108 #[.string s, .string ⟨#[46]⟩] w fun e w' => e = .returned (.bool (decide (0 ≤ Dc.ix (Dc.bl s)))) ∧ w' = w := by
  go_enter Tryz.func108, Tryz.ntmps108
  go_wp2_with (first | (go_at_call 176; refine (Dc.index_any _ _).mono ?_; rintro e w' ⟨rfl, rfl⟩) | go_in)
  go_ret
  exact ⟨rfl, rfl⟩
def wdS (k : Int) : Int := if k = 16 ∨ k = 20 then 64 else if k = 17 ∨ k = 21 then 32 else if k = 18 ∨ k = 22 then 16 else 8
theorem width_p (k : Int) (h0 : 16 ≤ k) (h1 : k ≤ 23) (w : World) : Calls Tryz.prog 111 #[.int .i64 k] w fun e w' => e = .returned (.int .i64 (wdS k)) ∧ w' = w := by
  rcases (by omega : k = 16 ∨ k = 17 ∨ k = 18 ∨ k = 19 ∨ k = 20 ∨ k = 21 ∨ k = 22 ∨ k = 23) with rfl | rfl | rfl | rfl | rfl | rfl | rfl | rfl
  all_goals
    clear h0 h1
    go_enter Tryz.func111, Tryz.ntmps111
    go_wp2
    go_ret
    exact ⟨rfl, rfl⟩
end Go.Proofs.YtgaegajcejpmdaaGreatDoor
