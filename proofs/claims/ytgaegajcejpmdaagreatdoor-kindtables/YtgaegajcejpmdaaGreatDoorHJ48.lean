/- Joined: HK14, HK15. -/
import Derived.Test.YtgaegajcejpmdaaGreatDoorHJ47
namespace Go.Proofs.YtgaegajcejpmdaaGreatDoor
open Go.RowKit
set_option linter.unusedVariables false
set_option linter.unusedSimpArgs false

theorem p18 (w : World) : Calls Tryz.prog 15 #[.int .i64 18] w fun e w' => e = .returned (.int .i64 10) ∧ w' = w := prim10 18 (by omega) (by omega) w
theorem tA {w : World} {va : Option Addr} {vc : Nat} (h : Dc.NmR w (.slice va 5 vc) (true, [3, 2, 7, 6, 8], 0)) : Calls Tryz.prog 32 #[.agg #[.bool true, .slice va 5 vc, .int .i64 0]] w fun e w' => e = .returned (.string ⟨#[45, 51, 50, 55, 54, 56]⟩) ∧ Below w.heap.size w w' := by
  have := Dc.text_p h
  rw [tx_A] at this
  exact this
theorem tB {w : World} {va : Option Addr} {vc : Nat} (h : Dc.NmR w (.slice va 5 vc) (true, [3, 2, 7, 6, 8], 0)) : Calls Tryz.prog 24 #[.agg #[.int .i64 10, .string ⟨#[]⟩, .bool true, .slice va 5 vc, .int .i64 0, .int .i64 0, .int .i64 0, .int .i64 0, .int .i64 0, .int .i64 0, .int .i64 0, .bool false, .int .i64 0, .int .i64 0, .int .i64 0, .int .i64 0]] w fun e w' => e = .returned (.string ⟨#[45, 51, 50, 55, 54, 56]⟩) ∧ Below w.heap.size w w' := by
  have := textN ⟨#[]⟩ z0 sp0 h
  rw [tx_A] at this
  exact this
set_option maxRecDepth 100000 in
set_option maxHeartbeats 6400000 in
theorem known_l (w : World) (hw : Lw w) : Calls Tryz.prog 8 #[] w fun e w' => e = .returned (.bool true) ∧ Below w.heap.size w w' := by
  go_enter Tryz.func8, Tryz.ntmps8
  go_wp2_with (go_at_call 9; (with_reducible refine Calls.mono (fS _ hw) ?_); rintro e w8 ⟨rfl, hw1⟩; have hw2 := hw1.symm; clear hw1; subst hw2)
  refine Calls.mono (pA _ hw) ?_
  rintro e w2 ⟨va, vc, rfl, hn, hb2⟩
  have hbx := BX.new w2 40 [.int .i64 10, .string ⟨#[]⟩, .bool true, .slice va 5 vc, .int .i64 0, .int .i64 0, .int .i64 0, .int .i64 0, .int .i64 0, .int .i64 0, .int .i64 0, .bool false, .int .i64 0, .int .i64 0, .int .i64 0, .int .i64 0]
  have hbU := hb2.trans (hbx.bel.mono hb2.size)
  have hnU := hn.below hbx.bel
  have HU : Hid _ := And.intro hbU (And.intro hnU hbx.blk)
  clear hn hb2 hbU hnU hbx
  go_wp2_with (refine wpList_store_row rfl 40 _ _ rfl _ _ rfl rfl 40 _ (nw_heap _ _) (by kernel_rfl) rfl (by simp [Value.oneCell']) ?_; rw [alloc_setRow])
  have hU1 := HU.out.1
  have hU2 := HU.out.2.1
  have hU3 := HU.out.2.2
  clear HU
  generalize w2.alloc (.cells #[.int .i64 10, .string ⟨#[]⟩, .bool true, .slice va 5 vc, .int .i64 0, .int .i64 0, .int .i64 0, .int .i64 0, .int .i64 0, .int .i64 0, .int .i64 0, .bool false, .int .i64 0, .int .i64 0, .int .i64 0, .int .i64 0] 40) = U at *
  refine Calls.mono (pB _ (hw.below hU1)) ?_
  rintro e w4 ⟨rfl, hb4⟩
  have hby := BX.new w4 40 [.int .i64 0, .string ⟨#[]⟩, .bool false, .slice none 0 0, .int .i64 0, .int .i64 0, .int .i64 0, .int .i64 0, .int .i64 0, .int .i64 0, .int .i64 0, .bool false, .int .i64 0, .int .i64 0, .int .i64 0, .int .i64 0]
  have hb5 := hb4.trans (hby.bel.mono hb4.size)
  have HV : Hid _ := And.intro (hU1.trans (hb5.mono hU1.size)) (And.intro (hU2.below hb5) ((hb5.block _ (Dc.lt_of hU3)).trans hU3))
  clear hU1 hU2 hU3 hb4 hby hb5
  have hw5 := hw.below HV.out.1
  have HW5 : Hid _ := hw5
  clear hw5
  go_upto_region 5 with (first | (refine wpList_store_row rfl 40 _ _ rfl _ _ rfl rfl 40 _ (nw_heap _ _) (by kernel_rfl) rfl (by simp [Value.oneCell']) ?_; rw [alloc_setRow]) | (go_at_call 9; (with_reducible refine Calls.mono (fF _ HW5.out) ?_); rintro e w8 ⟨rfl, hw1⟩; have hw2 := hw1.symm; clear hw1; subst hw2))
  generalize w4.alloc (.cells #[.int .i64 0, .string ⟨#[]⟩, .bool false, .slice none 0 0, .int .i64 0, .int .i64 0, .int .i64 0, .int .i64 0, .int .i64 0, .int .i64 0, .int .i64 0, .bool false, .int .i64 0, .int .i64 0, .int .i64 0, .int .i64 0] 40) = V at *
  have HK : Hid (∀ W, Below V.heap.size V W → W.heap[w2.heap.size]? = some (.cells #[.int .i64 10, .string ⟨#[]⟩, .bool true, .slice va 5 vc, .int .i64 0, .int .i64 0, .int .i64 0, .int .i64 0, .int .i64 0, .int .i64 0, .int .i64 0, .bool false, .int .i64 0, .int .i64 0, .int .i64 0, .int .i64 0] 40 (0, 0))) := fun W hW => (hW.block _ (Dc.lt_of HV.out.2.2)).trans HV.out.2.2
  obtain ⟨g0, g1, g2, g3, g4, g5, g6, g7, g8, g9, g10, g11, g12, g13, g14, g15⟩ := c16 HV.out.2.2
  have HB : Hid (Below V.heap.size V V) := Below.refl _ _
  go_wp2_with (first
    | (go_at_call 32; (with_reducible refine Calls.mono (tA (HV.out.2.1.below HB.out)) ?_); rintro e w9 ⟨rfl, hb9⟩; have hbb := HB.out.trans (hb9.mono HB.out.size); clear HB g0 g1 g2 g3 g4 g5 g6 g7 g8 g9 g10 g11 g12 g13 g14 g15; obtain ⟨g0, g1, g2, g3, g4, g5, g6, g7, g8, g9, g10, g11, g12, g13, g14, g15⟩ := c16 (HK.out _ hbb); have HB : Hid _ := hbb; clear hbb hb9)
    | (go_at_call 19; (with_reducible refine Calls.mono (d18 _) ?_); rintro e w8 ⟨rfl, hw1⟩; have hw2 := hw1.symm; clear hw1; subst hw2)
    | (go_at_call 15; (with_reducible refine Calls.mono (p18 _) ?_); rintro e w8 ⟨rfl, hw1⟩; have hw2 := hw1.symm; clear hw1; subst hw2)
    | (go_at_call 11; (with_reducible refine Calls.mono (n7 _ (HW5.out.below HB.out)) ?_); rintro e w8 ⟨rfl, hw1⟩; have hw2 := hw1.symm; clear hw1; subst hw2)
    | (go_at_call 24; (with_reducible refine Calls.mono (tB (HV.out.2.1.below HB.out)) ?_); rintro e w9 ⟨rfl, hb9⟩; have hbb := HB.out.trans (hb9.mono HB.out.size); clear HB g0 g1 g2 g3 g4 g5 g6 g7 g8 g9 g10 g11 g12 g13 g14 g15; obtain ⟨g0, g1, g2, g3, g4, g5, g6, g7, g8, g9, g10, g11, g12, g13, g14, g15⟩ := c16 (HK.out _ hbb); have HB : Hid _ := hbb; clear hbb hb9))
  go_ret
  exact ⟨rfl, HV.out.1.trans (HB.out.mono HV.out.1.size)⟩
end Go.Proofs.YtgaegajcejpmdaaGreatDoor
namespace Go.Proofs.YtgaegajcejpmdaaGreatDoor
open Go.RowKit
set_option linter.unusedVariables false
set_option linter.unusedSimpArgs false

set_option maxRecDepth 100000 in
set_option maxHeartbeats 6400000 in
theorem tables_s (k fr : Int) (s : ByteArray) (w : World) (hw : Lw w) : Calls Tryz.prog 3 #[.int .i64 k, .int .i64 fr, .string s] w fun e w' => e = .returned (.bool true) ∧ Below w.heap.size w w' := by
  by_cases hl : 400 < s.size
  · go_enter Tryz.func3, Tryz.ntmps3
    go_wp2_with (go_at_call 8; refine Calls.mono (known_l _ hw) ?_; rintro e w1 ⟨rfl, hb1⟩)
    go_ret
    exact ⟨rfl, hb1⟩
  · have hf := fun W (hW : Below w.heap.size w W) => find_k s W (hw.below hW).nm
    have hn := fun W (hW : Below w.heap.size w W) => name_k k W (hw.below hW).nm
    have HF : Hid _ := And.intro hf hn
    clear hf hn
    have HR : Hid _ := fun W => find_r s W
    generalize (fdS s).1 = f1 at *
    generalize (fdS s).2 = f2 at *
    go_enter Tryz.func3, Tryz.ntmps3
    go_wp2_with (first
      | (go_at_call 8; refine Calls.mono (known_l _ hw) ?_; rintro e w1 ⟨rfl, hb1⟩; have HB : Hid _ := hb1; clear hb1)
      | (go_at_call 9; refine Calls.mono (HF.out.1 _ HB.out) ?_; rintro e w8 ⟨rfl, hw1⟩; have hw2 := hw1.symm; clear hw1; subst hw2)
      | (go_at_call 10; refine Calls.mono (HR.out _) ?_; rintro e w9 ⟨rfl, hb9⟩; have hbb := HB.out.trans (hb9.mono HB.out.size); clear HB; have HB : Hid _ := hbb; clear hbb hb9)
      | (go_at_call 11; refine Calls.mono (HF.out.2 _ HB.out) ?_; rintro e w8 ⟨rfl, hw1⟩; have hw2 := hw1.symm; clear hw1; subst hw2)
      | (go_at_call 12; refine Calls.mono (name_r _ _) ?_; rintro e w9 ⟨rfl, hb9⟩; have hbb := HB.out.trans (hb9.mono HB.out.size); clear HB; have HB : Hid _ := hbb; clear hbb hb9)
      | (go_at_call 13; refine Calls.mono (base_k _ _) ?_; rintro e w8 ⟨rfl, hw1⟩; have hw2 := hw1.symm; clear hw1; subst hw2)
      | (go_at_call 14; refine Calls.mono (base_r _ _) ?_; rintro e w9 ⟨rfl, hb9⟩; have hbb := HB.out.trans (hb9.mono HB.out.size); clear HB; have HB : Hid _ := hbb; clear hbb hb9)
      | (go_at_call 15; refine Calls.mono (prim_k _ _) ?_; rintro e w8 ⟨rfl, hw1⟩; have hw2 := hw1.symm; clear hw1; subst hw2)
      | (go_at_call 16; refine Calls.mono (prim_r _ _) ?_; rintro e w9 ⟨rfl, hb9⟩; have hbb := HB.out.trans (hb9.mono HB.out.size); clear HB; have HB : Hid _ := hbb; clear hbb hb9)
      | (go_at_call 17; refine Calls.mono (white_k _ _) ?_; rintro e w8 ⟨rfl, hw1⟩; have hw2 := hw1.symm; clear hw1; subst hw2)
      | (go_at_call 18; refine Calls.mono (white_r _ _) ?_; rintro e w8 ⟨rfl, hw1⟩; have hw2 := hw1.symm; clear hw1; subst hw2)
      | (go_at_call 19; refine Calls.mono (derived_k _ _ _) ?_; rintro e w8 ⟨rfl, hw1⟩; have hw2 := hw1.symm; clear hw1; subst hw2)
      | (go_at_call 20; refine Calls.mono (derived_r _ _ _) ?_; rintro e w9 ⟨rfl, hb9⟩; have hbb := HB.out.trans (hb9.mono HB.out.size); clear HB; have HB : Hid _ := hbb; clear hbb hb9))
    go_ret
    exact ⟨rfl, HB.out⟩
end Go.Proofs.YtgaegajcejpmdaaGreatDoor
