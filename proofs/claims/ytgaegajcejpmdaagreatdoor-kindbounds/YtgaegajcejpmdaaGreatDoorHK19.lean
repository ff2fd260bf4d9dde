/- KindBounds: its walk. -/
import Derived.Test.YtgaegajcejpmdaaGreatDoorHK18
import Derived.Test.YtgaegajcejpmdaaGreatDoorHJ46
namespace Go.Proofs.YtgaegajcejpmdaaGreatDoor
open Go.RowKit
set_option linter.unusedVariables false
set_option linter.unusedSimpArgs false

def BdP (x : Int) (w : World) (e : Ending) (w' : World) : Prop := ∃ (p : Int) (tx : ByteArray) (ng : Bool) (a : Option Addr) (b c : Nat) (sc : Int) (m : Dt.Mo) (q : Dt.Sp), e = .returned (.tuple #[vlV p tx ng (.slice a b c) sc m q, .int .i64 x]) ∧ Below w.heap.size w w'
theorem parseB {n : Int} {D : List Int} (hD : Dc.Dg D) (hn : D ≠ []) (hl : D.length ≤ 20) (hv : Dc.dval D = (n.natAbs : Int)) (k : Int) (hk0 : 11 ≤ k) (hk1 : k ≤ 23) (w : World) (hw : Lw w) :
    (wiB k n = true → Calls Tryz.prog 21 #[.int .i64 k, .string (Dc.sb (dcT (decide (n < 0)) D))] w (BdP 0 w)) ∧ (wiB k n = false → Calls Tryz.prog 21 #[.int .i64 k, .string (Dc.sb (dcT (decide (n < 0)) D))] w (BdP 2 w)) := by
  have h := parseD (neg := decide (n < 0)) k w (by omega) hk1 hD hn hl hw (by omega)
  have e : (if decide (n < 0) = true then -(Dc.dval D) else Dc.dval D) = n := by
    rw [hv]
    by_cases q : n < 0
    · rw [if_pos (by simpa using q)]; omega
    · rw [if_neg (by simpa using q)]; omega
  rw [e] at h
  constructor
  · intro q
    refine h.mono ?_
    rintro e w' ⟨v, p, tx, ng, sl, sc, m, q2, rfl, rfl, ⟨a, b, c, rfl⟩, hb⟩
    exact ⟨p, tx, ng, a, b, c, sc, m, q2, by rw [if_pos q], hb⟩
  · intro q
    refine h.mono ?_
    rintro e w' ⟨v, p, tx, ng, sl, sc, m, q2, rfl, rfl, ⟨a, b, c, rfl⟩, hb⟩
    exact ⟨p, tx, ng, a, b, c, sc, m, q2, by rw [if_neg (by simp [q])], hb⟩
set_option maxRecDepth 100000 in
set_option maxHeartbeats 12800000 in
theorem bounds_s (n : Int) (w : World) (h0 : -9223372036854775808 ≤ n) (h1 : n ≤ 9223372036854775807) (hw : Lw w) : Calls Tryz.prog 6 #[.int .i64 n] w fun e w' => e = .returned (.bool true) ∧ Below w.heap.size w w' := by
  go_enter Tryz.func6, Tryz.ntmps6
  go_wp2_with (first | (go_at_call 8; refine Calls.mono (known_l _ hw) ?_; rintro e w1 ⟨rfl, hb1⟩; have HB1 : Hid _ := hb1; clear hb1) | (go_at_call 31; refine Calls.mono (decimal_l n _ h0 h1) ?_; rintro e w2 ⟨D, rfl, hD⟩; have HD : Hid _ := hD; clear hD))
  obtain ⟨d1, d2, d3, d4, hb2⟩ := HD.out
  have hbw2 := HB1.out.trans (hb2.mono HB1.out.size)
  have hA := (Below.refl w2.heap.size w2).alloc (Nat.le_refl _) (.cells #[.int .i64 (-9223372036854775808), .int .i64 (-2147483648), .int .i64 (-32768), .int .i64 (-128)] 3)
  have hAb := nw_heap w2 (.cells #[.int .i64 (-9223372036854775808), .int .i64 (-2147483648), .int .i64 (-32768), .int .i64 (-128)] 3)
  have hAs : (w2.alloc (.cells #[.int .i64 (-9223372036854775808), .int .i64 (-2147483648), .int .i64 (-32768), .int .i64 (-128)] 3)).heap.size = w2.heap.size + 1 := by simp
  have hB := (Below.refl (w2.alloc (.cells #[.int .i64 (-9223372036854775808), .int .i64 (-2147483648), .int .i64 (-32768), .int .i64 (-128)] 3)).heap.size (w2.alloc (.cells #[.int .i64 (-9223372036854775808), .int .i64 (-2147483648), .int .i64 (-32768), .int .i64 (-128)] 3))).alloc (Nat.le_refl _) (.cells #[.int .i64 9223372036854775807, .int .i64 2147483647, .int .i64 32767, .int .i64 127] 3)
  have hBb := nw_heap (w2.alloc (.cells #[.int .i64 (-9223372036854775808), .int .i64 (-2147483648), .int .i64 (-32768), .int .i64 (-128)] 3)) (.cells #[.int .i64 9223372036854775807, .int .i64 2147483647, .int .i64 32767, .int .i64 127] 3)
  have hAb2 := (hB.block _ (Dc.lt_of hAb)).trans hAb
  rw [hAs] at hBb
  have hW0 := hbw2.trans ((hA.trans (hB.mono hA.size)).mono hbw2.size)
  have HP : Hid (∀ k : Int, 11 ≤ k → k ≤ 23 → ∀ W, Below w.heap.size w W → _ ∧ _) := fun k hk0 hk1 W hW => parseB d1 d2 d3 d4 k hk0 hk1 W (hw.below hW)
  clear HD d1 d2 d3 d4 hb2 hbw2 hA hAb hAs hB HB1
  generalize hsd : Dc.sb (dcT (decide (n < 0)) D) = sd at *
  clear hsd
  generalize (w2.alloc (.cells #[.int .i64 (-9223372036854775808), .int .i64 (-2147483648), .int .i64 (-32768), .int .i64 (-128)] 3)).alloc (.cells #[.int .i64 9223372036854775807, .int .i64 2147483647, .int .i64 32767, .int .i64 127] 3) = W0 at *
  have HC : Hid (∀ W, Below W0.heap.size W0 W → W.cell? ⟨w2.heap.size, 0, none⟩ = some (.int .i64 (-9223372036854775808)) ∧ W.cell? ⟨w2.heap.size, 1, none⟩ = some (.int .i64 (-2147483648)) ∧ W.cell? ⟨w2.heap.size, 2, none⟩ = some (.int .i64 (-32768)) ∧ W.cell? ⟨w2.heap.size, 3, none⟩ = some (.int .i64 (-128)) ∧ W.cell? ⟨w2.heap.size + 1, 0, none⟩ = some (.int .i64 9223372036854775807) ∧ W.cell? ⟨w2.heap.size + 1, 1, none⟩ = some (.int .i64 2147483647) ∧ W.cell? ⟨w2.heap.size + 1, 2, none⟩ = some (.int .i64 32767) ∧ W.cell? ⟨w2.heap.size + 1, 3, none⟩ = some (.int .i64 127)) := by
    intro W hW
    have e1 := (hW.block _ (Dc.lt_of hAb2)).trans hAb2
    have e2 := (hW.block _ (Dc.lt_of hBb)).trans hBb
    simp only [row_cell e1, row_cell e2]
    exact ⟨rfl, rfl, rfl, rfl, rfl, rfl, rfl, rfl⟩
  have HB0 : Hid _ := hW0
  clear hW0 hAb2 hBb
  go_loopw [6] (fun i wr => ∃ j : Int, i = .int .i64 j ∧ 0 ≤ j ∧ j ≤ 4 ∧ Below W0.heap.size W0 wr) (fun i _ => 4 - (intOf i).toNat)
  case atStart => exact ⟨0, rfl, by omega, by omega, Below.refl _ _⟩
  case round =>
    obtain ⟨j, rfl, hj0, hj, hbel⟩ := hrel
    rcases (by omega : j = 0 ∨ j = 1 ∨ j = 2 ∨ j = 3 ∨ j = 4) with rfl | rfl | rfl | rfl | rfl
    · rcases (by omega : -9223372036854775808 ≤ n ∧ n ≤ 9223372036854775807) with ⟨hn0, hn1⟩
      have hwi : Hid (wiB 16 n = true) := by show _ = _; simp [wiB]; omega
      have hp := (HP.out 16 (by omega) (by omega) wr (HB0.out.trans (hbel.mono HB0.out.size))).1 hwi.out
      have HPP : Hid _ := hp
      have HBL : Hid _ := hbel
      clear hp hbel
      go_upto_region 10 with (first | (go_at_call 21; refine Calls.mono HPP.out ?_; rintro e w9 ⟨p, tx, ng, a, b, c, sc, m, q, rfl, hb9⟩; have HB9 : Hid _ := hb9; clear hb9) | (refine wpList_store_row rfl 40 _ _ rfl _ _ rfl rfl 40 _ (nw_heap _ _) (by kernel_rfl) rfl (by simp [Value.oneCell']) ?_; rw [alloc_setRow]))
      have hV : Below W0.heap.size W0 (w9.alloc (.cells #[.int .i64 p, .string tx, .bool ng, .slice a b c, .int .i64 sc, .int .i64 m.k, .int .i64 m.y, .int .i64 m.m, .int .i64 m.d, .int .i64 m.s, .int .i64 m.n, .bool m.hz, .int .i64 m.z, .int .i64 q.o, .int .i64 q.s, .int .i64 q.n] 40)) := (HBL.out.trans (HB9.out.mono HBL.out.size)).alloc (HBL.out.trans (HB9.out.mono HBL.out.size)).size _
      generalize w9.alloc (.cells #[.int .i64 p, .string tx, .bool ng, .slice a b c, .int .i64 sc, .int .i64 m.k, .int .i64 m.y, .int .i64 m.m, .int .i64 m.d, .int .i64 m.s, .int .i64 m.n, .bool m.hz, .int .i64 m.z, .int .i64 q.o, .int .i64 q.s, .int .i64 q.n] 40) = V at *
      obtain ⟨l0, l1, l2, l3, m0, m1, m2, m3⟩ := HC.out V hV
      have HV : Hid _ := hV
      clear hV
      go_wp2_with fail
      go_roundw
      case rel => exact ⟨1, rfl, by omega, by omega, HV.out⟩
      case measure => simp [intOf]
    · rcases (by omega : n < -2147483648 ∨ (-2147483648 ≤ n ∧ n ≤ 2147483647) ∨ (2147483647 < n ∧ -2147483648 ≤ n)) with hn0 | ⟨hn0, hn1⟩ | ⟨hn0, hn1⟩
      · have hwi : Hid (wiB 17 n = false) := by show _ = _; simp [wiB]; omega
        have hp := (HP.out 17 (by omega) (by omega) wr (HB0.out.trans (hbel.mono HB0.out.size))).2 hwi.out
        have HPP : Hid _ := hp
        have HBL : Hid _ := hbel
        clear hp hbel
        go_upto_region 10 with (first | (go_at_call 21; refine Calls.mono HPP.out ?_; rintro e w9 ⟨p, tx, ng, a, b, c, sc, m, q, rfl, hb9⟩; have HB9 : Hid _ := hb9; clear hb9) | (refine wpList_store_row rfl 40 _ _ rfl _ _ rfl rfl 40 _ (nw_heap _ _) (by kernel_rfl) rfl (by simp [Value.oneCell']) ?_; rw [alloc_setRow]))
        have hV : Below W0.heap.size W0 (w9.alloc (.cells #[.int .i64 p, .string tx, .bool ng, .slice a b c, .int .i64 sc, .int .i64 m.k, .int .i64 m.y, .int .i64 m.m, .int .i64 m.d, .int .i64 m.s, .int .i64 m.n, .bool m.hz, .int .i64 m.z, .int .i64 q.o, .int .i64 q.s, .int .i64 q.n] 40)) := (HBL.out.trans (HB9.out.mono HBL.out.size)).alloc (HBL.out.trans (HB9.out.mono HBL.out.size)).size _
        generalize w9.alloc (.cells #[.int .i64 p, .string tx, .bool ng, .slice a b c, .int .i64 sc, .int .i64 m.k, .int .i64 m.y, .int .i64 m.m, .int .i64 m.d, .int .i64 m.s, .int .i64 m.n, .bool m.hz, .int .i64 m.z, .int .i64 q.o, .int .i64 q.s, .int .i64 q.n] 40) = V at *
        obtain ⟨l0, l1, l2, l3, m0, m1, m2, m3⟩ := HC.out V hV
        have HV : Hid _ := hV
        clear hV
        go_wp2_with fail
        go_roundw
        case rel => exact ⟨2, rfl, by omega, by omega, HV.out⟩
        case measure => simp [intOf]
      · have hwi : Hid (wiB 17 n = true) := by show _ = _; simp [wiB]; omega
        have hp := (HP.out 17 (by omega) (by omega) wr (HB0.out.trans (hbel.mono HB0.out.size))).1 hwi.out
        have HPP : Hid _ := hp
        have HBL : Hid _ := hbel
        clear hp hbel
        go_upto_region 10 with (first | (go_at_call 21; refine Calls.mono HPP.out ?_; rintro e w9 ⟨p, tx, ng, a, b, c, sc, m, q, rfl, hb9⟩; have HB9 : Hid _ := hb9; clear hb9) | (refine wpList_store_row rfl 40 _ _ rfl _ _ rfl rfl 40 _ (nw_heap _ _) (by kernel_rfl) rfl (by simp [Value.oneCell']) ?_; rw [alloc_setRow]))
        have hV : Below W0.heap.size W0 (w9.alloc (.cells #[.int .i64 p, .string tx, .bool ng, .slice a b c, .int .i64 sc, .int .i64 m.k, .int .i64 m.y, .int .i64 m.m, .int .i64 m.d, .int .i64 m.s, .int .i64 m.n, .bool m.hz, .int .i64 m.z, .int .i64 q.o, .int .i64 q.s, .int .i64 q.n] 40)) := (HBL.out.trans (HB9.out.mono HBL.out.size)).alloc (HBL.out.trans (HB9.out.mono HBL.out.size)).size _
        generalize w9.alloc (.cells #[.int .i64 p, .string tx, .bool ng, .slice a b c, .int .i64 sc, .int .i64 m.k, .int .i64 m.y, .int .i64 m.m, .int .i64 m.d, .int .i64 m.s, .int .i64 m.n, .bool m.hz, .int .i64 m.z, .int .i64 q.o, .int .i64 q.s, .int .i64 q.n] 40) = V at *
        obtain ⟨l0, l1, l2, l3, m0, m1, m2, m3⟩ := HC.out V hV
        have HV : Hid _ := hV
        clear hV
        go_wp2_with fail
        go_roundw
        case rel => exact ⟨2, rfl, by omega, by omega, HV.out⟩
        case measure => simp [intOf]
      · have hwi : Hid (wiB 17 n = false) := by show _ = _; simp [wiB]; omega
        have hp := (HP.out 17 (by omega) (by omega) wr (HB0.out.trans (hbel.mono HB0.out.size))).2 hwi.out
        have HPP : Hid _ := hp
        have HBL : Hid _ := hbel
        clear hp hbel
        go_upto_region 10 with (first | (go_at_call 21; refine Calls.mono HPP.out ?_; rintro e w9 ⟨p, tx, ng, a, b, c, sc, m, q, rfl, hb9⟩; have HB9 : Hid _ := hb9; clear hb9) | (refine wpList_store_row rfl 40 _ _ rfl _ _ rfl rfl 40 _ (nw_heap _ _) (by kernel_rfl) rfl (by simp [Value.oneCell']) ?_; rw [alloc_setRow]))
        have hV : Below W0.heap.size W0 (w9.alloc (.cells #[.int .i64 p, .string tx, .bool ng, .slice a b c, .int .i64 sc, .int .i64 m.k, .int .i64 m.y, .int .i64 m.m, .int .i64 m.d, .int .i64 m.s, .int .i64 m.n, .bool m.hz, .int .i64 m.z, .int .i64 q.o, .int .i64 q.s, .int .i64 q.n] 40)) := (HBL.out.trans (HB9.out.mono HBL.out.size)).alloc (HBL.out.trans (HB9.out.mono HBL.out.size)).size _
        generalize w9.alloc (.cells #[.int .i64 p, .string tx, .bool ng, .slice a b c, .int .i64 sc, .int .i64 m.k, .int .i64 m.y, .int .i64 m.m, .int .i64 m.d, .int .i64 m.s, .int .i64 m.n, .bool m.hz, .int .i64 m.z, .int .i64 q.o, .int .i64 q.s, .int .i64 q.n] 40) = V at *
        obtain ⟨l0, l1, l2, l3, m0, m1, m2, m3⟩ := HC.out V hV
        have HV : Hid _ := hV
        clear hV
        go_wp2_with fail
        go_roundw
        case rel => exact ⟨2, rfl, by omega, by omega, HV.out⟩
        case measure => simp [intOf]
    · rcases (by omega : n < -32768 ∨ (-32768 ≤ n ∧ n ≤ 32767) ∨ (32767 < n ∧ -32768 ≤ n)) with hn0 | ⟨hn0, hn1⟩ | ⟨hn0, hn1⟩
      · have hwi : Hid (wiB 18 n = false) := by show _ = _; simp [wiB]; omega
        have hp := (HP.out 18 (by omega) (by omega) wr (HB0.out.trans (hbel.mono HB0.out.size))).2 hwi.out
        have HPP : Hid _ := hp
        have HBL : Hid _ := hbel
        clear hp hbel
        go_upto_region 10 with (first | (go_at_call 21; refine Calls.mono HPP.out ?_; rintro e w9 ⟨p, tx, ng, a, b, c, sc, m, q, rfl, hb9⟩; have HB9 : Hid _ := hb9; clear hb9) | (refine wpList_store_row rfl 40 _ _ rfl _ _ rfl rfl 40 _ (nw_heap _ _) (by kernel_rfl) rfl (by simp [Value.oneCell']) ?_; rw [alloc_setRow]))
        have hV : Below W0.heap.size W0 (w9.alloc (.cells #[.int .i64 p, .string tx, .bool ng, .slice a b c, .int .i64 sc, .int .i64 m.k, .int .i64 m.y, .int .i64 m.m, .int .i64 m.d, .int .i64 m.s, .int .i64 m.n, .bool m.hz, .int .i64 m.z, .int .i64 q.o, .int .i64 q.s, .int .i64 q.n] 40)) := (HBL.out.trans (HB9.out.mono HBL.out.size)).alloc (HBL.out.trans (HB9.out.mono HBL.out.size)).size _
        generalize w9.alloc (.cells #[.int .i64 p, .string tx, .bool ng, .slice a b c, .int .i64 sc, .int .i64 m.k, .int .i64 m.y, .int .i64 m.m, .int .i64 m.d, .int .i64 m.s, .int .i64 m.n, .bool m.hz, .int .i64 m.z, .int .i64 q.o, .int .i64 q.s, .int .i64 q.n] 40) = V at *
        obtain ⟨l0, l1, l2, l3, m0, m1, m2, m3⟩ := HC.out V hV
        have HV : Hid _ := hV
        clear hV
        go_wp2_with fail
        go_roundw
        case rel => exact ⟨3, rfl, by omega, by omega, HV.out⟩
        case measure => simp [intOf]
      · have hwi : Hid (wiB 18 n = true) := by show _ = _; simp [wiB]; omega
        have hp := (HP.out 18 (by omega) (by omega) wr (HB0.out.trans (hbel.mono HB0.out.size))).1 hwi.out
        have HPP : Hid _ := hp
        have HBL : Hid _ := hbel
        clear hp hbel
        go_upto_region 10 with (first | (go_at_call 21; refine Calls.mono HPP.out ?_; rintro e w9 ⟨p, tx, ng, a, b, c, sc, m, q, rfl, hb9⟩; have HB9 : Hid _ := hb9; clear hb9) | (refine wpList_store_row rfl 40 _ _ rfl _ _ rfl rfl 40 _ (nw_heap _ _) (by kernel_rfl) rfl (by simp [Value.oneCell']) ?_; rw [alloc_setRow]))
        have hV : Below W0.heap.size W0 (w9.alloc (.cells #[.int .i64 p, .string tx, .bool ng, .slice a b c, .int .i64 sc, .int .i64 m.k, .int .i64 m.y, .int .i64 m.m, .int .i64 m.d, .int .i64 m.s, .int .i64 m.n, .bool m.hz, .int .i64 m.z, .int .i64 q.o, .int .i64 q.s, .int .i64 q.n] 40)) := (HBL.out.trans (HB9.out.mono HBL.out.size)).alloc (HBL.out.trans (HB9.out.mono HBL.out.size)).size _
        generalize w9.alloc (.cells #[.int .i64 p, .string tx, .bool ng, .slice a b c, .int .i64 sc, .int .i64 m.k, .int .i64 m.y, .int .i64 m.m, .int .i64 m.d, .int .i64 m.s, .int .i64 m.n, .bool m.hz, .int .i64 m.z, .int .i64 q.o, .int .i64 q.s, .int .i64 q.n] 40) = V at *
        obtain ⟨l0, l1, l2, l3, m0, m1, m2, m3⟩ := HC.out V hV
        have HV : Hid _ := hV
        clear hV
        go_wp2_with fail
        go_roundw
        case rel => exact ⟨3, rfl, by omega, by omega, HV.out⟩
        case measure => simp [intOf]
      · have hwi : Hid (wiB 18 n = false) := by show _ = _; simp [wiB]; omega
        have hp := (HP.out 18 (by omega) (by omega) wr (HB0.out.trans (hbel.mono HB0.out.size))).2 hwi.out
        have HPP : Hid _ := hp
        have HBL : Hid _ := hbel
        clear hp hbel
        go_upto_region 10 with (first | (go_at_call 21; refine Calls.mono HPP.out ?_; rintro e w9 ⟨p, tx, ng, a, b, c, sc, m, q, rfl, hb9⟩; have HB9 : Hid _ := hb9; clear hb9) | (refine wpList_store_row rfl 40 _ _ rfl _ _ rfl rfl 40 _ (nw_heap _ _) (by kernel_rfl) rfl (by simp [Value.oneCell']) ?_; rw [alloc_setRow]))
        have hV : Below W0.heap.size W0 (w9.alloc (.cells #[.int .i64 p, .string tx, .bool ng, .slice a b c, .int .i64 sc, .int .i64 m.k, .int .i64 m.y, .int .i64 m.m, .int .i64 m.d, .int .i64 m.s, .int .i64 m.n, .bool m.hz, .int .i64 m.z, .int .i64 q.o, .int .i64 q.s, .int .i64 q.n] 40)) := (HBL.out.trans (HB9.out.mono HBL.out.size)).alloc (HBL.out.trans (HB9.out.mono HBL.out.size)).size _
        generalize w9.alloc (.cells #[.int .i64 p, .string tx, .bool ng, .slice a b c, .int .i64 sc, .int .i64 m.k, .int .i64 m.y, .int .i64 m.m, .int .i64 m.d, .int .i64 m.s, .int .i64 m.n, .bool m.hz, .int .i64 m.z, .int .i64 q.o, .int .i64 q.s, .int .i64 q.n] 40) = V at *
        obtain ⟨l0, l1, l2, l3, m0, m1, m2, m3⟩ := HC.out V hV
        have HV : Hid _ := hV
        clear hV
        go_wp2_with fail
        go_roundw
        case rel => exact ⟨3, rfl, by omega, by omega, HV.out⟩
        case measure => simp [intOf]
    · rcases (by omega : n < -128 ∨ (-128 ≤ n ∧ n ≤ 127) ∨ (127 < n ∧ -128 ≤ n)) with hn0 | ⟨hn0, hn1⟩ | ⟨hn0, hn1⟩
      · have hwi : Hid (wiB 19 n = false) := by show _ = _; simp [wiB]; omega
        have hp := (HP.out 19 (by omega) (by omega) wr (HB0.out.trans (hbel.mono HB0.out.size))).2 hwi.out
        have HPP : Hid _ := hp
        have HBL : Hid _ := hbel
        clear hp hbel
        go_upto_region 10 with (first | (go_at_call 21; refine Calls.mono HPP.out ?_; rintro e w9 ⟨p, tx, ng, a, b, c, sc, m, q, rfl, hb9⟩; have HB9 : Hid _ := hb9; clear hb9) | (refine wpList_store_row rfl 40 _ _ rfl _ _ rfl rfl 40 _ (nw_heap _ _) (by kernel_rfl) rfl (by simp [Value.oneCell']) ?_; rw [alloc_setRow]))
        have hV : Below W0.heap.size W0 (w9.alloc (.cells #[.int .i64 p, .string tx, .bool ng, .slice a b c, .int .i64 sc, .int .i64 m.k, .int .i64 m.y, .int .i64 m.m, .int .i64 m.d, .int .i64 m.s, .int .i64 m.n, .bool m.hz, .int .i64 m.z, .int .i64 q.o, .int .i64 q.s, .int .i64 q.n] 40)) := (HBL.out.trans (HB9.out.mono HBL.out.size)).alloc (HBL.out.trans (HB9.out.mono HBL.out.size)).size _
        generalize w9.alloc (.cells #[.int .i64 p, .string tx, .bool ng, .slice a b c, .int .i64 sc, .int .i64 m.k, .int .i64 m.y, .int .i64 m.m, .int .i64 m.d, .int .i64 m.s, .int .i64 m.n, .bool m.hz, .int .i64 m.z, .int .i64 q.o, .int .i64 q.s, .int .i64 q.n] 40) = V at *
        obtain ⟨l0, l1, l2, l3, m0, m1, m2, m3⟩ := HC.out V hV
        have HV : Hid _ := hV
        clear hV
        go_wp2_with fail
        go_roundw
        case rel => exact ⟨4, rfl, by omega, by omega, HV.out⟩
        case measure => simp [intOf]
      · have hwi : Hid (wiB 19 n = true) := by show _ = _; simp [wiB]; omega
        have hp := (HP.out 19 (by omega) (by omega) wr (HB0.out.trans (hbel.mono HB0.out.size))).1 hwi.out
        have HPP : Hid _ := hp
        have HBL : Hid _ := hbel
        clear hp hbel
        go_upto_region 10 with (first | (go_at_call 21; refine Calls.mono HPP.out ?_; rintro e w9 ⟨p, tx, ng, a, b, c, sc, m, q, rfl, hb9⟩; have HB9 : Hid _ := hb9; clear hb9) | (refine wpList_store_row rfl 40 _ _ rfl _ _ rfl rfl 40 _ (nw_heap _ _) (by kernel_rfl) rfl (by simp [Value.oneCell']) ?_; rw [alloc_setRow]))
        have hV : Below W0.heap.size W0 (w9.alloc (.cells #[.int .i64 p, .string tx, .bool ng, .slice a b c, .int .i64 sc, .int .i64 m.k, .int .i64 m.y, .int .i64 m.m, .int .i64 m.d, .int .i64 m.s, .int .i64 m.n, .bool m.hz, .int .i64 m.z, .int .i64 q.o, .int .i64 q.s, .int .i64 q.n] 40)) := (HBL.out.trans (HB9.out.mono HBL.out.size)).alloc (HBL.out.trans (HB9.out.mono HBL.out.size)).size _
        generalize w9.alloc (.cells #[.int .i64 p, .string tx, .bool ng, .slice a b c, .int .i64 sc, .int .i64 m.k, .int .i64 m.y, .int .i64 m.m, .int .i64 m.d, .int .i64 m.s, .int .i64 m.n, .bool m.hz, .int .i64 m.z, .int .i64 q.o, .int .i64 q.s, .int .i64 q.n] 40) = V at *
        obtain ⟨l0, l1, l2, l3, m0, m1, m2, m3⟩ := HC.out V hV
        have HV : Hid _ := hV
        clear hV
        go_wp2_with fail
        go_roundw
        case rel => exact ⟨4, rfl, by omega, by omega, HV.out⟩
        case measure => simp [intOf]
      · have hwi : Hid (wiB 19 n = false) := by show _ = _; simp [wiB]; omega
        have hp := (HP.out 19 (by omega) (by omega) wr (HB0.out.trans (hbel.mono HB0.out.size))).2 hwi.out
        have HPP : Hid _ := hp
        have HBL : Hid _ := hbel
        clear hp hbel
        go_upto_region 10 with (first | (go_at_call 21; refine Calls.mono HPP.out ?_; rintro e w9 ⟨p, tx, ng, a, b, c, sc, m, q, rfl, hb9⟩; have HB9 : Hid _ := hb9; clear hb9) | (refine wpList_store_row rfl 40 _ _ rfl _ _ rfl rfl 40 _ (nw_heap _ _) (by kernel_rfl) rfl (by simp [Value.oneCell']) ?_; rw [alloc_setRow]))
        have hV : Below W0.heap.size W0 (w9.alloc (.cells #[.int .i64 p, .string tx, .bool ng, .slice a b c, .int .i64 sc, .int .i64 m.k, .int .i64 m.y, .int .i64 m.m, .int .i64 m.d, .int .i64 m.s, .int .i64 m.n, .bool m.hz, .int .i64 m.z, .int .i64 q.o, .int .i64 q.s, .int .i64 q.n] 40)) := (HBL.out.trans (HB9.out.mono HBL.out.size)).alloc (HBL.out.trans (HB9.out.mono HBL.out.size)).size _
        generalize w9.alloc (.cells #[.int .i64 p, .string tx, .bool ng, .slice a b c, .int .i64 sc, .int .i64 m.k, .int .i64 m.y, .int .i64 m.m, .int .i64 m.d, .int .i64 m.s, .int .i64 m.n, .bool m.hz, .int .i64 m.z, .int .i64 q.o, .int .i64 q.s, .int .i64 q.n] 40) = V at *
        obtain ⟨l0, l1, l2, l3, m0, m1, m2, m3⟩ := HC.out V hV
        have HV : Hid _ := hV
        clear hV
        go_wp2_with fail
        go_roundw
        case rel => exact ⟨4, rfl, by omega, by omega, HV.out⟩
        case measure => simp [intOf]
    · have HBL : Hid _ := hbel
      clear hbel HC
      go_wp2_with fail
      have hT := nw_heap wr (.cells #[.int .i64 9223372036854775807, .int .i64 4294967295, .int .i64 65535, .int .i64 255] 3)
      have hb3 : Below w.heap.size w (wr.alloc (.cells #[.int .i64 9223372036854775807, .int .i64 4294967295, .int .i64 65535, .int .i64 255] 3)) := (HB0.out.trans (HBL.out.mono HB0.out.size)).alloc (HB0.out.trans (HBL.out.mono HB0.out.size)).size _
      generalize wr.alloc (.cells #[.int .i64 9223372036854775807, .int .i64 4294967295, .int .i64 65535, .int .i64 255] 3) = W1 at *
      have HC : Hid (∀ W, Below W1.heap.size W1 W → W.cell? ⟨wr.heap.size, 0, none⟩ = some (.int .i64 9223372036854775807) ∧ W.cell? ⟨wr.heap.size, 1, none⟩ = some (.int .i64 4294967295) ∧ W.cell? ⟨wr.heap.size, 2, none⟩ = some (.int .i64 65535) ∧ W.cell? ⟨wr.heap.size, 3, none⟩ = some (.int .i64 255)) := by
        intro W hW
        have e1 := (hW.block _ (Dc.lt_of hT)).trans hT
        simp only [row_cell e1]
        exact ⟨rfl, rfl, rfl, rfl⟩
      clear HB0 HBL hT
      have HB0 : Hid _ := hb3
      clear hb3
      go_loopw [10] (fun i wq => ∃ j : Int, i = .int .i64 j ∧ 0 ≤ j ∧ j ≤ 4 ∧ Below W1.heap.size W1 wq) (fun i _ => 4 - (intOf i).toNat)
      case atStart => exact ⟨0, rfl, by omega, by omega, Below.refl _ _⟩
      case round =>
        obtain ⟨j, rfl, hj0, hj, hbel⟩ := hrel
        rcases (by omega : j = 0 ∨ j = 1 ∨ j = 2 ∨ j = 3 ∨ j = 4) with rfl | rfl | rfl | rfl | rfl
        · rcases (by omega : n < 0 ∨ (0 ≤ n ∧ n ≤ 9223372036854775807)) with hn0 | ⟨hn0, hn1⟩
          · have hwi : Hid (wiB 20 n = false) := by show _ = _; simp [wiB]; omega
            have hp := (HP.out 20 (by omega) (by omega) wr (HB0.out.trans (hbel.mono HB0.out.size))).2 hwi.out
            have HPP : Hid _ := hp
            have HBL : Hid _ := hbel
            clear hp hbel
            go_upto_region 17 with (first | (go_at_call 21; refine Calls.mono HPP.out ?_; rintro e w9 ⟨p, tx, ng, a, b, c, sc, m, q, rfl, hb9⟩; have HB9 : Hid _ := hb9; clear hb9) | (refine wpList_store_row rfl 40 _ _ rfl _ _ rfl rfl 40 _ (nw_heap _ _) (by kernel_rfl) rfl (by simp [Value.oneCell']) ?_; rw [alloc_setRow]))
            have hV : Below W1.heap.size W1 (w9.alloc (.cells #[.int .i64 p, .string tx, .bool ng, .slice a b c, .int .i64 sc, .int .i64 m.k, .int .i64 m.y, .int .i64 m.m, .int .i64 m.d, .int .i64 m.s, .int .i64 m.n, .bool m.hz, .int .i64 m.z, .int .i64 q.o, .int .i64 q.s, .int .i64 q.n] 40)) := (HBL.out.trans (HB9.out.mono HBL.out.size)).alloc (HBL.out.trans (HB9.out.mono HBL.out.size)).size _
            generalize w9.alloc (.cells #[.int .i64 p, .string tx, .bool ng, .slice a b c, .int .i64 sc, .int .i64 m.k, .int .i64 m.y, .int .i64 m.m, .int .i64 m.d, .int .i64 m.s, .int .i64 m.n, .bool m.hz, .int .i64 m.z, .int .i64 q.o, .int .i64 q.s, .int .i64 q.n] 40) = V at *
            obtain ⟨l0, l1, l2, l3⟩ := HC.out V hV
            have HV : Hid _ := hV
            clear hV
            go_wp2_with fail
            go_roundw
            case rel => exact ⟨1, rfl, by omega, by omega, HV.out⟩
            case measure => simp [intOf]
          · have hwi : Hid (wiB 20 n = true) := by show _ = _; simp [wiB]; omega
            have hp := (HP.out 20 (by omega) (by omega) wr (HB0.out.trans (hbel.mono HB0.out.size))).1 hwi.out
            have HPP : Hid _ := hp
            have HBL : Hid _ := hbel
            clear hp hbel
            go_upto_region 17 with (first | (go_at_call 21; refine Calls.mono HPP.out ?_; rintro e w9 ⟨p, tx, ng, a, b, c, sc, m, q, rfl, hb9⟩; have HB9 : Hid _ := hb9; clear hb9) | (refine wpList_store_row rfl 40 _ _ rfl _ _ rfl rfl 40 _ (nw_heap _ _) (by kernel_rfl) rfl (by simp [Value.oneCell']) ?_; rw [alloc_setRow]))
            have hV : Below W1.heap.size W1 (w9.alloc (.cells #[.int .i64 p, .string tx, .bool ng, .slice a b c, .int .i64 sc, .int .i64 m.k, .int .i64 m.y, .int .i64 m.m, .int .i64 m.d, .int .i64 m.s, .int .i64 m.n, .bool m.hz, .int .i64 m.z, .int .i64 q.o, .int .i64 q.s, .int .i64 q.n] 40)) := (HBL.out.trans (HB9.out.mono HBL.out.size)).alloc (HBL.out.trans (HB9.out.mono HBL.out.size)).size _
            generalize w9.alloc (.cells #[.int .i64 p, .string tx, .bool ng, .slice a b c, .int .i64 sc, .int .i64 m.k, .int .i64 m.y, .int .i64 m.m, .int .i64 m.d, .int .i64 m.s, .int .i64 m.n, .bool m.hz, .int .i64 m.z, .int .i64 q.o, .int .i64 q.s, .int .i64 q.n] 40) = V at *
            obtain ⟨l0, l1, l2, l3⟩ := HC.out V hV
            have HV : Hid _ := hV
            clear hV
            go_wp2_with fail
            go_roundw
            case rel => exact ⟨1, rfl, by omega, by omega, HV.out⟩
            case measure => simp [intOf]
        · rcases (by omega : n < 0 ∨ (0 ≤ n ∧ n ≤ 4294967295) ∨ (4294967295 < n ∧ 0 ≤ n)) with hn0 | ⟨hn0, hn1⟩ | ⟨hn0, hn1⟩
          · have hwi : Hid (wiB 21 n = false) := by show _ = _; simp [wiB]; omega
            have hp := (HP.out 21 (by omega) (by omega) wr (HB0.out.trans (hbel.mono HB0.out.size))).2 hwi.out
            have HPP : Hid _ := hp
            have HBL : Hid _ := hbel
            clear hp hbel
            go_upto_region 17 with (first | (go_at_call 21; refine Calls.mono HPP.out ?_; rintro e w9 ⟨p, tx, ng, a, b, c, sc, m, q, rfl, hb9⟩; have HB9 : Hid _ := hb9; clear hb9) | (refine wpList_store_row rfl 40 _ _ rfl _ _ rfl rfl 40 _ (nw_heap _ _) (by kernel_rfl) rfl (by simp [Value.oneCell']) ?_; rw [alloc_setRow]))
            have hV : Below W1.heap.size W1 (w9.alloc (.cells #[.int .i64 p, .string tx, .bool ng, .slice a b c, .int .i64 sc, .int .i64 m.k, .int .i64 m.y, .int .i64 m.m, .int .i64 m.d, .int .i64 m.s, .int .i64 m.n, .bool m.hz, .int .i64 m.z, .int .i64 q.o, .int .i64 q.s, .int .i64 q.n] 40)) := (HBL.out.trans (HB9.out.mono HBL.out.size)).alloc (HBL.out.trans (HB9.out.mono HBL.out.size)).size _
            generalize w9.alloc (.cells #[.int .i64 p, .string tx, .bool ng, .slice a b c, .int .i64 sc, .int .i64 m.k, .int .i64 m.y, .int .i64 m.m, .int .i64 m.d, .int .i64 m.s, .int .i64 m.n, .bool m.hz, .int .i64 m.z, .int .i64 q.o, .int .i64 q.s, .int .i64 q.n] 40) = V at *
            obtain ⟨l0, l1, l2, l3⟩ := HC.out V hV
            have HV : Hid _ := hV
            clear hV
            go_wp2_with fail
            go_roundw
            case rel => exact ⟨2, rfl, by omega, by omega, HV.out⟩
            case measure => simp [intOf]
          · have hwi : Hid (wiB 21 n = true) := by show _ = _; simp [wiB]; omega
            have hp := (HP.out 21 (by omega) (by omega) wr (HB0.out.trans (hbel.mono HB0.out.size))).1 hwi.out
            have HPP : Hid _ := hp
            have HBL : Hid _ := hbel
            clear hp hbel
            go_upto_region 17 with (first | (go_at_call 21; refine Calls.mono HPP.out ?_; rintro e w9 ⟨p, tx, ng, a, b, c, sc, m, q, rfl, hb9⟩; have HB9 : Hid _ := hb9; clear hb9) | (refine wpList_store_row rfl 40 _ _ rfl _ _ rfl rfl 40 _ (nw_heap _ _) (by kernel_rfl) rfl (by simp [Value.oneCell']) ?_; rw [alloc_setRow]))
            have hV : Below W1.heap.size W1 (w9.alloc (.cells #[.int .i64 p, .string tx, .bool ng, .slice a b c, .int .i64 sc, .int .i64 m.k, .int .i64 m.y, .int .i64 m.m, .int .i64 m.d, .int .i64 m.s, .int .i64 m.n, .bool m.hz, .int .i64 m.z, .int .i64 q.o, .int .i64 q.s, .int .i64 q.n] 40)) := (HBL.out.trans (HB9.out.mono HBL.out.size)).alloc (HBL.out.trans (HB9.out.mono HBL.out.size)).size _
            generalize w9.alloc (.cells #[.int .i64 p, .string tx, .bool ng, .slice a b c, .int .i64 sc, .int .i64 m.k, .int .i64 m.y, .int .i64 m.m, .int .i64 m.d, .int .i64 m.s, .int .i64 m.n, .bool m.hz, .int .i64 m.z, .int .i64 q.o, .int .i64 q.s, .int .i64 q.n] 40) = V at *
            obtain ⟨l0, l1, l2, l3⟩ := HC.out V hV
            have HV : Hid _ := hV
            clear hV
            go_wp2_with fail
            go_roundw
            case rel => exact ⟨2, rfl, by omega, by omega, HV.out⟩
            case measure => simp [intOf]
          · have hwi : Hid (wiB 21 n = false) := by show _ = _; simp [wiB]; omega
            have hp := (HP.out 21 (by omega) (by omega) wr (HB0.out.trans (hbel.mono HB0.out.size))).2 hwi.out
            have HPP : Hid _ := hp
            have HBL : Hid _ := hbel
            clear hp hbel
            go_upto_region 17 with (first | (go_at_call 21; refine Calls.mono HPP.out ?_; rintro e w9 ⟨p, tx, ng, a, b, c, sc, m, q, rfl, hb9⟩; have HB9 : Hid _ := hb9; clear hb9) | (refine wpList_store_row rfl 40 _ _ rfl _ _ rfl rfl 40 _ (nw_heap _ _) (by kernel_rfl) rfl (by simp [Value.oneCell']) ?_; rw [alloc_setRow]))
            have hV : Below W1.heap.size W1 (w9.alloc (.cells #[.int .i64 p, .string tx, .bool ng, .slice a b c, .int .i64 sc, .int .i64 m.k, .int .i64 m.y, .int .i64 m.m, .int .i64 m.d, .int .i64 m.s, .int .i64 m.n, .bool m.hz, .int .i64 m.z, .int .i64 q.o, .int .i64 q.s, .int .i64 q.n] 40)) := (HBL.out.trans (HB9.out.mono HBL.out.size)).alloc (HBL.out.trans (HB9.out.mono HBL.out.size)).size _
            generalize w9.alloc (.cells #[.int .i64 p, .string tx, .bool ng, .slice a b c, .int .i64 sc, .int .i64 m.k, .int .i64 m.y, .int .i64 m.m, .int .i64 m.d, .int .i64 m.s, .int .i64 m.n, .bool m.hz, .int .i64 m.z, .int .i64 q.o, .int .i64 q.s, .int .i64 q.n] 40) = V at *
            obtain ⟨l0, l1, l2, l3⟩ := HC.out V hV
            have HV : Hid _ := hV
            clear hV
            go_wp2_with fail
            go_roundw
            case rel => exact ⟨2, rfl, by omega, by omega, HV.out⟩
            case measure => simp [intOf]
        · rcases (by omega : n < 0 ∨ (0 ≤ n ∧ n ≤ 65535) ∨ (65535 < n ∧ 0 ≤ n)) with hn0 | ⟨hn0, hn1⟩ | ⟨hn0, hn1⟩
          · have hwi : Hid (wiB 22 n = false) := by show _ = _; simp [wiB]; omega
            have hp := (HP.out 22 (by omega) (by omega) wr (HB0.out.trans (hbel.mono HB0.out.size))).2 hwi.out
            have HPP : Hid _ := hp
            have HBL : Hid _ := hbel
            clear hp hbel
            go_upto_region 17 with (first | (go_at_call 21; refine Calls.mono HPP.out ?_; rintro e w9 ⟨p, tx, ng, a, b, c, sc, m, q, rfl, hb9⟩; have HB9 : Hid _ := hb9; clear hb9) | (refine wpList_store_row rfl 40 _ _ rfl _ _ rfl rfl 40 _ (nw_heap _ _) (by kernel_rfl) rfl (by simp [Value.oneCell']) ?_; rw [alloc_setRow]))
            have hV : Below W1.heap.size W1 (w9.alloc (.cells #[.int .i64 p, .string tx, .bool ng, .slice a b c, .int .i64 sc, .int .i64 m.k, .int .i64 m.y, .int .i64 m.m, .int .i64 m.d, .int .i64 m.s, .int .i64 m.n, .bool m.hz, .int .i64 m.z, .int .i64 q.o, .int .i64 q.s, .int .i64 q.n] 40)) := (HBL.out.trans (HB9.out.mono HBL.out.size)).alloc (HBL.out.trans (HB9.out.mono HBL.out.size)).size _
            generalize w9.alloc (.cells #[.int .i64 p, .string tx, .bool ng, .slice a b c, .int .i64 sc, .int .i64 m.k, .int .i64 m.y, .int .i64 m.m, .int .i64 m.d, .int .i64 m.s, .int .i64 m.n, .bool m.hz, .int .i64 m.z, .int .i64 q.o, .int .i64 q.s, .int .i64 q.n] 40) = V at *
            obtain ⟨l0, l1, l2, l3⟩ := HC.out V hV
            have HV : Hid _ := hV
            clear hV
            go_wp2_with fail
            go_roundw
            case rel => exact ⟨3, rfl, by omega, by omega, HV.out⟩
            case measure => simp [intOf]
          · have hwi : Hid (wiB 22 n = true) := by show _ = _; simp [wiB]; omega
            have hp := (HP.out 22 (by omega) (by omega) wr (HB0.out.trans (hbel.mono HB0.out.size))).1 hwi.out
            have HPP : Hid _ := hp
            have HBL : Hid _ := hbel
            clear hp hbel
            go_upto_region 17 with (first | (go_at_call 21; refine Calls.mono HPP.out ?_; rintro e w9 ⟨p, tx, ng, a, b, c, sc, m, q, rfl, hb9⟩; have HB9 : Hid _ := hb9; clear hb9) | (refine wpList_store_row rfl 40 _ _ rfl _ _ rfl rfl 40 _ (nw_heap _ _) (by kernel_rfl) rfl (by simp [Value.oneCell']) ?_; rw [alloc_setRow]))
            have hV : Below W1.heap.size W1 (w9.alloc (.cells #[.int .i64 p, .string tx, .bool ng, .slice a b c, .int .i64 sc, .int .i64 m.k, .int .i64 m.y, .int .i64 m.m, .int .i64 m.d, .int .i64 m.s, .int .i64 m.n, .bool m.hz, .int .i64 m.z, .int .i64 q.o, .int .i64 q.s, .int .i64 q.n] 40)) := (HBL.out.trans (HB9.out.mono HBL.out.size)).alloc (HBL.out.trans (HB9.out.mono HBL.out.size)).size _
            generalize w9.alloc (.cells #[.int .i64 p, .string tx, .bool ng, .slice a b c, .int .i64 sc, .int .i64 m.k, .int .i64 m.y, .int .i64 m.m, .int .i64 m.d, .int .i64 m.s, .int .i64 m.n, .bool m.hz, .int .i64 m.z, .int .i64 q.o, .int .i64 q.s, .int .i64 q.n] 40) = V at *
            obtain ⟨l0, l1, l2, l3⟩ := HC.out V hV
            have HV : Hid _ := hV
            clear hV
            go_wp2_with fail
            go_roundw
            case rel => exact ⟨3, rfl, by omega, by omega, HV.out⟩
            case measure => simp [intOf]
          · have hwi : Hid (wiB 22 n = false) := by show _ = _; simp [wiB]; omega
            have hp := (HP.out 22 (by omega) (by omega) wr (HB0.out.trans (hbel.mono HB0.out.size))).2 hwi.out
            have HPP : Hid _ := hp
            have HBL : Hid _ := hbel
            clear hp hbel
            go_upto_region 17 with (first | (go_at_call 21; refine Calls.mono HPP.out ?_; rintro e w9 ⟨p, tx, ng, a, b, c, sc, m, q, rfl, hb9⟩; have HB9 : Hid _ := hb9; clear hb9) | (refine wpList_store_row rfl 40 _ _ rfl _ _ rfl rfl 40 _ (nw_heap _ _) (by kernel_rfl) rfl (by simp [Value.oneCell']) ?_; rw [alloc_setRow]))
            have hV : Below W1.heap.size W1 (w9.alloc (.cells #[.int .i64 p, .string tx, .bool ng, .slice a b c, .int .i64 sc, .int .i64 m.k, .int .i64 m.y, .int .i64 m.m, .int .i64 m.d, .int .i64 m.s, .int .i64 m.n, .bool m.hz, .int .i64 m.z, .int .i64 q.o, .int .i64 q.s, .int .i64 q.n] 40)) := (HBL.out.trans (HB9.out.mono HBL.out.size)).alloc (HBL.out.trans (HB9.out.mono HBL.out.size)).size _
            generalize w9.alloc (.cells #[.int .i64 p, .string tx, .bool ng, .slice a b c, .int .i64 sc, .int .i64 m.k, .int .i64 m.y, .int .i64 m.m, .int .i64 m.d, .int .i64 m.s, .int .i64 m.n, .bool m.hz, .int .i64 m.z, .int .i64 q.o, .int .i64 q.s, .int .i64 q.n] 40) = V at *
            obtain ⟨l0, l1, l2, l3⟩ := HC.out V hV
            have HV : Hid _ := hV
            clear hV
            go_wp2_with fail
            go_roundw
            case rel => exact ⟨3, rfl, by omega, by omega, HV.out⟩
            case measure => simp [intOf]
        · rcases (by omega : n < 0 ∨ (0 ≤ n ∧ n ≤ 255) ∨ (255 < n ∧ 0 ≤ n)) with hn0 | ⟨hn0, hn1⟩ | ⟨hn0, hn1⟩
          · have hwi : Hid (wiB 23 n = false) := by show _ = _; simp [wiB]; omega
            have hp := (HP.out 23 (by omega) (by omega) wr (HB0.out.trans (hbel.mono HB0.out.size))).2 hwi.out
            have HPP : Hid _ := hp
            have HBL : Hid _ := hbel
            clear hp hbel
            go_upto_region 17 with (first | (go_at_call 21; refine Calls.mono HPP.out ?_; rintro e w9 ⟨p, tx, ng, a, b, c, sc, m, q, rfl, hb9⟩; have HB9 : Hid _ := hb9; clear hb9) | (refine wpList_store_row rfl 40 _ _ rfl _ _ rfl rfl 40 _ (nw_heap _ _) (by kernel_rfl) rfl (by simp [Value.oneCell']) ?_; rw [alloc_setRow]))
            have hV : Below W1.heap.size W1 (w9.alloc (.cells #[.int .i64 p, .string tx, .bool ng, .slice a b c, .int .i64 sc, .int .i64 m.k, .int .i64 m.y, .int .i64 m.m, .int .i64 m.d, .int .i64 m.s, .int .i64 m.n, .bool m.hz, .int .i64 m.z, .int .i64 q.o, .int .i64 q.s, .int .i64 q.n] 40)) := (HBL.out.trans (HB9.out.mono HBL.out.size)).alloc (HBL.out.trans (HB9.out.mono HBL.out.size)).size _
            generalize w9.alloc (.cells #[.int .i64 p, .string tx, .bool ng, .slice a b c, .int .i64 sc, .int .i64 m.k, .int .i64 m.y, .int .i64 m.m, .int .i64 m.d, .int .i64 m.s, .int .i64 m.n, .bool m.hz, .int .i64 m.z, .int .i64 q.o, .int .i64 q.s, .int .i64 q.n] 40) = V at *
            obtain ⟨l0, l1, l2, l3⟩ := HC.out V hV
            have HV : Hid _ := hV
            clear hV
            go_wp2_with fail
            go_roundw
            case rel => exact ⟨4, rfl, by omega, by omega, HV.out⟩
            case measure => simp [intOf]
          · have hwi : Hid (wiB 23 n = true) := by show _ = _; simp [wiB]; omega
            have hp := (HP.out 23 (by omega) (by omega) wr (HB0.out.trans (hbel.mono HB0.out.size))).1 hwi.out
            have HPP : Hid _ := hp
            have HBL : Hid _ := hbel
            clear hp hbel
            go_upto_region 17 with (first | (go_at_call 21; refine Calls.mono HPP.out ?_; rintro e w9 ⟨p, tx, ng, a, b, c, sc, m, q, rfl, hb9⟩; have HB9 : Hid _ := hb9; clear hb9) | (refine wpList_store_row rfl 40 _ _ rfl _ _ rfl rfl 40 _ (nw_heap _ _) (by kernel_rfl) rfl (by simp [Value.oneCell']) ?_; rw [alloc_setRow]))
            have hV : Below W1.heap.size W1 (w9.alloc (.cells #[.int .i64 p, .string tx, .bool ng, .slice a b c, .int .i64 sc, .int .i64 m.k, .int .i64 m.y, .int .i64 m.m, .int .i64 m.d, .int .i64 m.s, .int .i64 m.n, .bool m.hz, .int .i64 m.z, .int .i64 q.o, .int .i64 q.s, .int .i64 q.n] 40)) := (HBL.out.trans (HB9.out.mono HBL.out.size)).alloc (HBL.out.trans (HB9.out.mono HBL.out.size)).size _
            generalize w9.alloc (.cells #[.int .i64 p, .string tx, .bool ng, .slice a b c, .int .i64 sc, .int .i64 m.k, .int .i64 m.y, .int .i64 m.m, .int .i64 m.d, .int .i64 m.s, .int .i64 m.n, .bool m.hz, .int .i64 m.z, .int .i64 q.o, .int .i64 q.s, .int .i64 q.n] 40) = V at *
            obtain ⟨l0, l1, l2, l3⟩ := HC.out V hV
            have HV : Hid _ := hV
            clear hV
            go_wp2_with fail
            go_roundw
            case rel => exact ⟨4, rfl, by omega, by omega, HV.out⟩
            case measure => simp [intOf]
          · have hwi : Hid (wiB 23 n = false) := by show _ = _; simp [wiB]; omega
            have hp := (HP.out 23 (by omega) (by omega) wr (HB0.out.trans (hbel.mono HB0.out.size))).2 hwi.out
            have HPP : Hid _ := hp
            have HBL : Hid _ := hbel
            clear hp hbel
            go_upto_region 17 with (first | (go_at_call 21; refine Calls.mono HPP.out ?_; rintro e w9 ⟨p, tx, ng, a, b, c, sc, m, q, rfl, hb9⟩; have HB9 : Hid _ := hb9; clear hb9) | (refine wpList_store_row rfl 40 _ _ rfl _ _ rfl rfl 40 _ (nw_heap _ _) (by kernel_rfl) rfl (by simp [Value.oneCell']) ?_; rw [alloc_setRow]))
            have hV : Below W1.heap.size W1 (w9.alloc (.cells #[.int .i64 p, .string tx, .bool ng, .slice a b c, .int .i64 sc, .int .i64 m.k, .int .i64 m.y, .int .i64 m.m, .int .i64 m.d, .int .i64 m.s, .int .i64 m.n, .bool m.hz, .int .i64 m.z, .int .i64 q.o, .int .i64 q.s, .int .i64 q.n] 40)) := (HBL.out.trans (HB9.out.mono HBL.out.size)).alloc (HBL.out.trans (HB9.out.mono HBL.out.size)).size _
            generalize w9.alloc (.cells #[.int .i64 p, .string tx, .bool ng, .slice a b c, .int .i64 sc, .int .i64 m.k, .int .i64 m.y, .int .i64 m.m, .int .i64 m.d, .int .i64 m.s, .int .i64 m.n, .bool m.hz, .int .i64 m.z, .int .i64 q.o, .int .i64 q.s, .int .i64 q.n] 40) = V at *
            obtain ⟨l0, l1, l2, l3⟩ := HC.out V hV
            have HV : Hid _ := hV
            clear hV
            go_wp2_with fail
            go_roundw
            case rel => exact ⟨4, rfl, by omega, by omega, HV.out⟩
            case measure => simp [intOf]
        · have HBL : Hid _ := HB0.out.trans (hbel.mono HB0.out.size)
          clear hbel HC HB0
          rcases (by omega : n < 0 ∨ n = 0 ∨ 0 < n) with hn0 | hn0 | hn0
          · have hwi12 : Hid (wiB 12 n = true) := by show _ = _; simp [wiB]; omega
            have HPP : Hid _ := (HP.out 12 (by omega) (by omega) wr HBL.out).1 hwi12.out
            go_upto_region 20 with (first | (go_at_call 21; refine Calls.mono HPP.out ?_; rintro e w9 ⟨p, tx, ng, a, b, c, sc, m, q, rfl, hb9⟩; have HB9 : Hid _ := hb9; clear hb9) | (refine wpList_store_row rfl 40 _ _ rfl _ _ rfl rfl 40 _ (nw_heap _ _) (by kernel_rfl) rfl (by simp [Value.oneCell']) ?_; rw [alloc_setRow]))
            have hV : Below w.heap.size w (w9.alloc (.cells #[.int .i64 p, .string tx, .bool ng, .slice a b c, .int .i64 sc, .int .i64 m.k, .int .i64 m.y, .int .i64 m.m, .int .i64 m.d, .int .i64 m.s, .int .i64 m.n, .bool m.hz, .int .i64 m.z, .int .i64 q.o, .int .i64 q.s, .int .i64 q.n] 40)) := (HBL.out.trans (HB9.out.mono HBL.out.size)).alloc (HBL.out.trans (HB9.out.mono HBL.out.size)).size _
            obtain ⟨V1, hVV⟩ : ∃ X, w9.alloc (.cells #[.int .i64 p, .string tx, .bool ng, .slice a b c, .int .i64 sc, .int .i64 m.k, .int .i64 m.y, .int .i64 m.m, .int .i64 m.d, .int .i64 m.s, .int .i64 m.n, .bool m.hz, .int .i64 m.z, .int .i64 q.o, .int .i64 q.s, .int .i64 q.n] 40) = X := ⟨_, rfl⟩
            rw [hVV] at hV ⊢
            clear HBL HB9 HPP hVV
            have HBL : Hid _ := hV
            clear hV
            have hwi13 : Hid (wiB 13 n = true) := by show _ = _; simp [wiB]; omega
            have HPP : Hid _ := (HP.out 13 (by omega) (by omega) V1 HBL.out).1 hwi13.out
            go_upto_region 21 with (first | (go_at_call 21; refine Calls.mono HPP.out ?_; rintro e w9 ⟨p, tx, ng, a, b, c, sc, m, q, rfl, hb9⟩; have HB9 : Hid _ := hb9; clear hb9) | (refine wpList_store_row rfl 40 _ _ rfl _ _ rfl rfl 40 _ (nw_heap _ _) (by kernel_rfl) rfl (by simp [Value.oneCell']) ?_; rw [alloc_setRow]))
            have hV : Below w.heap.size w (w9.alloc (.cells #[.int .i64 p, .string tx, .bool ng, .slice a b c, .int .i64 sc, .int .i64 m.k, .int .i64 m.y, .int .i64 m.m, .int .i64 m.d, .int .i64 m.s, .int .i64 m.n, .bool m.hz, .int .i64 m.z, .int .i64 q.o, .int .i64 q.s, .int .i64 q.n] 40)) := (HBL.out.trans (HB9.out.mono HBL.out.size)).alloc (HBL.out.trans (HB9.out.mono HBL.out.size)).size _
            obtain ⟨V2, hVV⟩ : ∃ X, w9.alloc (.cells #[.int .i64 p, .string tx, .bool ng, .slice a b c, .int .i64 sc, .int .i64 m.k, .int .i64 m.y, .int .i64 m.m, .int .i64 m.d, .int .i64 m.s, .int .i64 m.n, .bool m.hz, .int .i64 m.z, .int .i64 q.o, .int .i64 q.s, .int .i64 q.n] 40) = X := ⟨_, rfl⟩
            rw [hVV] at hV ⊢
            clear HBL HB9 HPP hVV
            have HBL : Hid _ := hV
            clear hV
            have hwi14 : Hid (wiB 14 n = false) := by show _ = _; simp [wiB]; omega
            have HPP : Hid _ := (HP.out 14 (by omega) (by omega) V2 HBL.out).2 hwi14.out
            go_upto_region 22 with (first | (go_at_call 21; refine Calls.mono HPP.out ?_; rintro e w9 ⟨p, tx, ng, a, b, c, sc, m, q, rfl, hb9⟩; have HB9 : Hid _ := hb9; clear hb9) | (refine wpList_store_row rfl 40 _ _ rfl _ _ rfl rfl 40 _ (nw_heap _ _) (by kernel_rfl) rfl (by simp [Value.oneCell']) ?_; rw [alloc_setRow]))
            have hV : Below w.heap.size w (w9.alloc (.cells #[.int .i64 p, .string tx, .bool ng, .slice a b c, .int .i64 sc, .int .i64 m.k, .int .i64 m.y, .int .i64 m.m, .int .i64 m.d, .int .i64 m.s, .int .i64 m.n, .bool m.hz, .int .i64 m.z, .int .i64 q.o, .int .i64 q.s, .int .i64 q.n] 40)) := (HBL.out.trans (HB9.out.mono HBL.out.size)).alloc (HBL.out.trans (HB9.out.mono HBL.out.size)).size _
            obtain ⟨V3, hVV⟩ : ∃ X, w9.alloc (.cells #[.int .i64 p, .string tx, .bool ng, .slice a b c, .int .i64 sc, .int .i64 m.k, .int .i64 m.y, .int .i64 m.m, .int .i64 m.d, .int .i64 m.s, .int .i64 m.n, .bool m.hz, .int .i64 m.z, .int .i64 q.o, .int .i64 q.s, .int .i64 q.n] 40) = X := ⟨_, rfl⟩
            rw [hVV] at hV ⊢
            clear HBL HB9 HPP hVV
            have HBL : Hid _ := hV
            clear hV
            have hwi15 : Hid (wiB 15 n = false) := by show _ = _; simp [wiB]; omega
            have HPP : Hid _ := (HP.out 15 (by omega) (by omega) V3 HBL.out).2 hwi15.out
            go_upto_region 23 with (first | (go_at_call 21; refine Calls.mono HPP.out ?_; rintro e w9 ⟨p, tx, ng, a, b, c, sc, m, q, rfl, hb9⟩; have HB9 : Hid _ := hb9; clear hb9) | (refine wpList_store_row rfl 40 _ _ rfl _ _ rfl rfl 40 _ (nw_heap _ _) (by kernel_rfl) rfl (by simp [Value.oneCell']) ?_; rw [alloc_setRow]))
            have hV : Below w.heap.size w (w9.alloc (.cells #[.int .i64 p, .string tx, .bool ng, .slice a b c, .int .i64 sc, .int .i64 m.k, .int .i64 m.y, .int .i64 m.m, .int .i64 m.d, .int .i64 m.s, .int .i64 m.n, .bool m.hz, .int .i64 m.z, .int .i64 q.o, .int .i64 q.s, .int .i64 q.n] 40)) := (HBL.out.trans (HB9.out.mono HBL.out.size)).alloc (HBL.out.trans (HB9.out.mono HBL.out.size)).size _
            obtain ⟨V4, hVV⟩ : ∃ X, w9.alloc (.cells #[.int .i64 p, .string tx, .bool ng, .slice a b c, .int .i64 sc, .int .i64 m.k, .int .i64 m.y, .int .i64 m.m, .int .i64 m.d, .int .i64 m.s, .int .i64 m.n, .bool m.hz, .int .i64 m.z, .int .i64 q.o, .int .i64 q.s, .int .i64 q.n] 40) = X := ⟨_, rfl⟩
            rw [hVV] at hV ⊢
            clear HBL HB9 HPP hVV
            have HBL : Hid _ := hV
            clear hV
            go_wp2_with fail
            go_ret
            refine ⟨ret_b ?_, HBL.out⟩
            first | rfl | (simp; omega) | simp
          · subst hn0
            have hwi12 : Hid (wiB 12 0 = true) := by show _ = _; simp [wiB]
            have HPP : Hid _ := (HP.out 12 (by omega) (by omega) wr HBL.out).1 hwi12.out
            go_upto_region 20 with (first | (go_at_call 21; refine Calls.mono HPP.out ?_; rintro e w9 ⟨p, tx, ng, a, b, c, sc, m, q, rfl, hb9⟩; have HB9 : Hid _ := hb9; clear hb9) | (refine wpList_store_row rfl 40 _ _ rfl _ _ rfl rfl 40 _ (nw_heap _ _) (by kernel_rfl) rfl (by simp [Value.oneCell']) ?_; rw [alloc_setRow]))
            have hV : Below w.heap.size w (w9.alloc (.cells #[.int .i64 p, .string tx, .bool ng, .slice a b c, .int .i64 sc, .int .i64 m.k, .int .i64 m.y, .int .i64 m.m, .int .i64 m.d, .int .i64 m.s, .int .i64 m.n, .bool m.hz, .int .i64 m.z, .int .i64 q.o, .int .i64 q.s, .int .i64 q.n] 40)) := (HBL.out.trans (HB9.out.mono HBL.out.size)).alloc (HBL.out.trans (HB9.out.mono HBL.out.size)).size _
            obtain ⟨V1, hVV⟩ : ∃ X, w9.alloc (.cells #[.int .i64 p, .string tx, .bool ng, .slice a b c, .int .i64 sc, .int .i64 m.k, .int .i64 m.y, .int .i64 m.m, .int .i64 m.d, .int .i64 m.s, .int .i64 m.n, .bool m.hz, .int .i64 m.z, .int .i64 q.o, .int .i64 q.s, .int .i64 q.n] 40) = X := ⟨_, rfl⟩
            rw [hVV] at hV ⊢
            clear HBL HB9 HPP hVV
            have HBL : Hid _ := hV
            clear hV
            have hwi13 : Hid (wiB 13 0 = false) := by show _ = _; simp [wiB]
            have HPP : Hid _ := (HP.out 13 (by omega) (by omega) V1 HBL.out).2 hwi13.out
            go_upto_region 21 with (first | (go_at_call 21; refine Calls.mono HPP.out ?_; rintro e w9 ⟨p, tx, ng, a, b, c, sc, m, q, rfl, hb9⟩; have HB9 : Hid _ := hb9; clear hb9) | (refine wpList_store_row rfl 40 _ _ rfl _ _ rfl rfl 40 _ (nw_heap _ _) (by kernel_rfl) rfl (by simp [Value.oneCell']) ?_; rw [alloc_setRow]))
            have hV : Below w.heap.size w (w9.alloc (.cells #[.int .i64 p, .string tx, .bool ng, .slice a b c, .int .i64 sc, .int .i64 m.k, .int .i64 m.y, .int .i64 m.m, .int .i64 m.d, .int .i64 m.s, .int .i64 m.n, .bool m.hz, .int .i64 m.z, .int .i64 q.o, .int .i64 q.s, .int .i64 q.n] 40)) := (HBL.out.trans (HB9.out.mono HBL.out.size)).alloc (HBL.out.trans (HB9.out.mono HBL.out.size)).size _
            obtain ⟨V2, hVV⟩ : ∃ X, w9.alloc (.cells #[.int .i64 p, .string tx, .bool ng, .slice a b c, .int .i64 sc, .int .i64 m.k, .int .i64 m.y, .int .i64 m.m, .int .i64 m.d, .int .i64 m.s, .int .i64 m.n, .bool m.hz, .int .i64 m.z, .int .i64 q.o, .int .i64 q.s, .int .i64 q.n] 40) = X := ⟨_, rfl⟩
            rw [hVV] at hV ⊢
            clear HBL HB9 HPP hVV
            have HBL : Hid _ := hV
            clear hV
            have hwi14 : Hid (wiB 14 0 = true) := by show _ = _; simp [wiB]
            have HPP : Hid _ := (HP.out 14 (by omega) (by omega) V2 HBL.out).1 hwi14.out
            go_upto_region 22 with (first | (go_at_call 21; refine Calls.mono HPP.out ?_; rintro e w9 ⟨p, tx, ng, a, b, c, sc, m, q, rfl, hb9⟩; have HB9 : Hid _ := hb9; clear hb9) | (refine wpList_store_row rfl 40 _ _ rfl _ _ rfl rfl 40 _ (nw_heap _ _) (by kernel_rfl) rfl (by simp [Value.oneCell']) ?_; rw [alloc_setRow]))
            have hV : Below w.heap.size w (w9.alloc (.cells #[.int .i64 p, .string tx, .bool ng, .slice a b c, .int .i64 sc, .int .i64 m.k, .int .i64 m.y, .int .i64 m.m, .int .i64 m.d, .int .i64 m.s, .int .i64 m.n, .bool m.hz, .int .i64 m.z, .int .i64 q.o, .int .i64 q.s, .int .i64 q.n] 40)) := (HBL.out.trans (HB9.out.mono HBL.out.size)).alloc (HBL.out.trans (HB9.out.mono HBL.out.size)).size _
            obtain ⟨V3, hVV⟩ : ∃ X, w9.alloc (.cells #[.int .i64 p, .string tx, .bool ng, .slice a b c, .int .i64 sc, .int .i64 m.k, .int .i64 m.y, .int .i64 m.m, .int .i64 m.d, .int .i64 m.s, .int .i64 m.n, .bool m.hz, .int .i64 m.z, .int .i64 q.o, .int .i64 q.s, .int .i64 q.n] 40) = X := ⟨_, rfl⟩
            rw [hVV] at hV ⊢
            clear HBL HB9 HPP hVV
            have HBL : Hid _ := hV
            clear hV
            have hwi15 : Hid (wiB 15 0 = false) := by show _ = _; simp [wiB]
            have HPP : Hid _ := (HP.out 15 (by omega) (by omega) V3 HBL.out).2 hwi15.out
            go_upto_region 23 with (first | (go_at_call 21; refine Calls.mono HPP.out ?_; rintro e w9 ⟨p, tx, ng, a, b, c, sc, m, q, rfl, hb9⟩; have HB9 : Hid _ := hb9; clear hb9) | (refine wpList_store_row rfl 40 _ _ rfl _ _ rfl rfl 40 _ (nw_heap _ _) (by kernel_rfl) rfl (by simp [Value.oneCell']) ?_; rw [alloc_setRow]))
            have hV : Below w.heap.size w (w9.alloc (.cells #[.int .i64 p, .string tx, .bool ng, .slice a b c, .int .i64 sc, .int .i64 m.k, .int .i64 m.y, .int .i64 m.m, .int .i64 m.d, .int .i64 m.s, .int .i64 m.n, .bool m.hz, .int .i64 m.z, .int .i64 q.o, .int .i64 q.s, .int .i64 q.n] 40)) := (HBL.out.trans (HB9.out.mono HBL.out.size)).alloc (HBL.out.trans (HB9.out.mono HBL.out.size)).size _
            obtain ⟨V4, hVV⟩ : ∃ X, w9.alloc (.cells #[.int .i64 p, .string tx, .bool ng, .slice a b c, .int .i64 sc, .int .i64 m.k, .int .i64 m.y, .int .i64 m.m, .int .i64 m.d, .int .i64 m.s, .int .i64 m.n, .bool m.hz, .int .i64 m.z, .int .i64 q.o, .int .i64 q.s, .int .i64 q.n] 40) = X := ⟨_, rfl⟩
            rw [hVV] at hV ⊢
            clear HBL HB9 HPP hVV
            have HBL : Hid _ := hV
            clear hV
            go_wp2_with fail
            go_ret
            refine ⟨ret_b ?_, HBL.out⟩
            first | rfl | (simp; omega) | simp
          · have hwi12 : Hid (wiB 12 n = false) := by show _ = _; simp [wiB]; omega
            have HPP : Hid _ := (HP.out 12 (by omega) (by omega) wr HBL.out).2 hwi12.out
            go_upto_region 20 with (first | (go_at_call 21; refine Calls.mono HPP.out ?_; rintro e w9 ⟨p, tx, ng, a, b, c, sc, m, q, rfl, hb9⟩; have HB9 : Hid _ := hb9; clear hb9) | (refine wpList_store_row rfl 40 _ _ rfl _ _ rfl rfl 40 _ (nw_heap _ _) (by kernel_rfl) rfl (by simp [Value.oneCell']) ?_; rw [alloc_setRow]))
            have hV : Below w.heap.size w (w9.alloc (.cells #[.int .i64 p, .string tx, .bool ng, .slice a b c, .int .i64 sc, .int .i64 m.k, .int .i64 m.y, .int .i64 m.m, .int .i64 m.d, .int .i64 m.s, .int .i64 m.n, .bool m.hz, .int .i64 m.z, .int .i64 q.o, .int .i64 q.s, .int .i64 q.n] 40)) := (HBL.out.trans (HB9.out.mono HBL.out.size)).alloc (HBL.out.trans (HB9.out.mono HBL.out.size)).size _
            obtain ⟨V1, hVV⟩ : ∃ X, w9.alloc (.cells #[.int .i64 p, .string tx, .bool ng, .slice a b c, .int .i64 sc, .int .i64 m.k, .int .i64 m.y, .int .i64 m.m, .int .i64 m.d, .int .i64 m.s, .int .i64 m.n, .bool m.hz, .int .i64 m.z, .int .i64 q.o, .int .i64 q.s, .int .i64 q.n] 40) = X := ⟨_, rfl⟩
            rw [hVV] at hV ⊢
            clear HBL HB9 HPP hVV
            have HBL : Hid _ := hV
            clear hV
            have hwi13 : Hid (wiB 13 n = false) := by show _ = _; simp [wiB]; omega
            have HPP : Hid _ := (HP.out 13 (by omega) (by omega) V1 HBL.out).2 hwi13.out
            go_upto_region 21 with (first | (go_at_call 21; refine Calls.mono HPP.out ?_; rintro e w9 ⟨p, tx, ng, a, b, c, sc, m, q, rfl, hb9⟩; have HB9 : Hid _ := hb9; clear hb9) | (refine wpList_store_row rfl 40 _ _ rfl _ _ rfl rfl 40 _ (nw_heap _ _) (by kernel_rfl) rfl (by simp [Value.oneCell']) ?_; rw [alloc_setRow]))
            have hV : Below w.heap.size w (w9.alloc (.cells #[.int .i64 p, .string tx, .bool ng, .slice a b c, .int .i64 sc, .int .i64 m.k, .int .i64 m.y, .int .i64 m.m, .int .i64 m.d, .int .i64 m.s, .int .i64 m.n, .bool m.hz, .int .i64 m.z, .int .i64 q.o, .int .i64 q.s, .int .i64 q.n] 40)) := (HBL.out.trans (HB9.out.mono HBL.out.size)).alloc (HBL.out.trans (HB9.out.mono HBL.out.size)).size _
            obtain ⟨V2, hVV⟩ : ∃ X, w9.alloc (.cells #[.int .i64 p, .string tx, .bool ng, .slice a b c, .int .i64 sc, .int .i64 m.k, .int .i64 m.y, .int .i64 m.m, .int .i64 m.d, .int .i64 m.s, .int .i64 m.n, .bool m.hz, .int .i64 m.z, .int .i64 q.o, .int .i64 q.s, .int .i64 q.n] 40) = X := ⟨_, rfl⟩
            rw [hVV] at hV ⊢
            clear HBL HB9 HPP hVV
            have HBL : Hid _ := hV
            clear hV
            have hwi14 : Hid (wiB 14 n = true) := by show _ = _; simp [wiB]; omega
            have HPP : Hid _ := (HP.out 14 (by omega) (by omega) V2 HBL.out).1 hwi14.out
            go_upto_region 22 with (first | (go_at_call 21; refine Calls.mono HPP.out ?_; rintro e w9 ⟨p, tx, ng, a, b, c, sc, m, q, rfl, hb9⟩; have HB9 : Hid _ := hb9; clear hb9) | (refine wpList_store_row rfl 40 _ _ rfl _ _ rfl rfl 40 _ (nw_heap _ _) (by kernel_rfl) rfl (by simp [Value.oneCell']) ?_; rw [alloc_setRow]))
            have hV : Below w.heap.size w (w9.alloc (.cells #[.int .i64 p, .string tx, .bool ng, .slice a b c, .int .i64 sc, .int .i64 m.k, .int .i64 m.y, .int .i64 m.m, .int .i64 m.d, .int .i64 m.s, .int .i64 m.n, .bool m.hz, .int .i64 m.z, .int .i64 q.o, .int .i64 q.s, .int .i64 q.n] 40)) := (HBL.out.trans (HB9.out.mono HBL.out.size)).alloc (HBL.out.trans (HB9.out.mono HBL.out.size)).size _
            obtain ⟨V3, hVV⟩ : ∃ X, w9.alloc (.cells #[.int .i64 p, .string tx, .bool ng, .slice a b c, .int .i64 sc, .int .i64 m.k, .int .i64 m.y, .int .i64 m.m, .int .i64 m.d, .int .i64 m.s, .int .i64 m.n, .bool m.hz, .int .i64 m.z, .int .i64 q.o, .int .i64 q.s, .int .i64 q.n] 40) = X := ⟨_, rfl⟩
            rw [hVV] at hV ⊢
            clear HBL HB9 HPP hVV
            have HBL : Hid _ := hV
            clear hV
            have hwi15 : Hid (wiB 15 n = true) := by show _ = _; simp [wiB]; omega
            have HPP : Hid _ := (HP.out 15 (by omega) (by omega) V3 HBL.out).1 hwi15.out
            go_upto_region 23 with (first | (go_at_call 21; refine Calls.mono HPP.out ?_; rintro e w9 ⟨p, tx, ng, a, b, c, sc, m, q, rfl, hb9⟩; have HB9 : Hid _ := hb9; clear hb9) | (refine wpList_store_row rfl 40 _ _ rfl _ _ rfl rfl 40 _ (nw_heap _ _) (by kernel_rfl) rfl (by simp [Value.oneCell']) ?_; rw [alloc_setRow]))
            have hV : Below w.heap.size w (w9.alloc (.cells #[.int .i64 p, .string tx, .bool ng, .slice a b c, .int .i64 sc, .int .i64 m.k, .int .i64 m.y, .int .i64 m.m, .int .i64 m.d, .int .i64 m.s, .int .i64 m.n, .bool m.hz, .int .i64 m.z, .int .i64 q.o, .int .i64 q.s, .int .i64 q.n] 40)) := (HBL.out.trans (HB9.out.mono HBL.out.size)).alloc (HBL.out.trans (HB9.out.mono HBL.out.size)).size _
            obtain ⟨V4, hVV⟩ : ∃ X, w9.alloc (.cells #[.int .i64 p, .string tx, .bool ng, .slice a b c, .int .i64 sc, .int .i64 m.k, .int .i64 m.y, .int .i64 m.m, .int .i64 m.d, .int .i64 m.s, .int .i64 m.n, .bool m.hz, .int .i64 m.z, .int .i64 q.o, .int .i64 q.s, .int .i64 q.n] 40) = X := ⟨_, rfl⟩
            rw [hVV] at hV ⊢
            clear HBL HB9 HPP hVV
            have HBL : Hid _ := hV
            clear hV
            go_wp2_with fail
            go_ret
            refine ⟨ret_b ?_, HBL.out⟩
            first | rfl | (simp; omega) | simp
end Go.Proofs.YtgaegajcejpmdaaGreatDoor
