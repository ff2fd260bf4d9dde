/- The laws' known. -/
import Derived.Test.YthlkbijpphdblaaJ50
namespace Go.Proofs.Ythlkbijpphdblaa
open Go.RowKit
set_option linter.unusedVariables false

set_option maxRecDepth 4000 in
set_option maxHeartbeats 4000000 in
theorem known_p (w : World) : Calls Try.prog 5 #[] w fun e w' => e = .returned (.bool true) ∧ Below w.heap.size w w' := by
  go_enter Try.func5, Try.ntmps5
  go_wp2_with fail
  refine Calls.mono (parse_p _ w) ?_
  intro e w1 hq
  rw [kn_par] at hq
  obtain ⟨q0, s0, s1, s2, q2, q3, t0, t1, t2, rfl, hn, hb1⟩ := hq
  obtain ⟨g, off, a1, c1, rfl, rfl, rfl, hc2, hO, hg, hm, hs, hsl⟩ := kn_cells hn
  obtain ⟨O, hOe⟩ : ∃ O, Nw w w1 = O := ⟨_, rfl⟩
  rw [hOe] at hn hO hsl
  have xR := nw_heap w1 (.cells #[.int .i64 4, .slice s0 s1 s2, .int .i64 q2, .int .i64 q3, .slice (some ⟨g, off, none⟩) 2 t2] 27)
  have bR : Below w1.heap.size w1 (w1.alloc (.cells #[.int .i64 4, .slice s0 s1 s2, .int .i64 q2, .int .i64 q3, .slice (some ⟨g, off, none⟩) 2 t2] 27)) := (Below.refl _ _).alloc (Nat.le_refl _) _
  have H1 : Hid _ := And.intro hn (And.intro hb1 (And.intro hg (And.intro hm (And.intro hs (And.intro hsl (And.intro xR bR))))))
  clear hn hb1 hg hm hs hsl xR bR hO hOe
  go_wp2_with fail
  refine Calls.mono (parse_p _ _) ?_
  intro e w2 hq
  rw [kn_bad] at hq
  obtain ⟨rfl, hb2⟩ := hq
  have H2 : Hid _ := hb2
  clear hb2
  go_upto_region 3 with fail
  obtain ⟨hn, hb1, hg, hm, hs, hsl, xR, bR⟩ := H1.out
  obtain ⟨W, hW⟩ : ∃ W, w2.alloc (.cells zN 27) = W := ⟨_, rfl⟩
  have bW : Below w2.heap.size w2 W := by rw [← hW]; exact (Below.refl _ _).alloc (Nat.le_refl _) _
  have b1W := H2.out.trans (bW.mono H2.out.size)
  have zR := sza w1 (.cells #[.int .i64 4, .slice s0 s1 s2, .int .i64 q2, .int .i64 q3, .slice (some ⟨g, off, none⟩) 2 t2] 27)
  have b2W := bR.trans (b1W.mono bR.size)
  have xW := (b1W.block w1.heap.size (by rw [zR]; omega)).trans xR
  have hnW := hn.fro (fun _ q => q) b2W.size (fun g _ hgs => b2W.block g hgs)
  have hslW := (hsl.fro (fun _ q => q) b2W.size (fun g _ hgs => b2W.block g hgs)).sl
  have hmW := cell_of (b2W.block g hg) hm
  have hsW := cell_of (b2W.block g hg) hs
  have b0W := hb1.trans (b2W.mono hb1.size)
  have hgW := Nat.lt_of_lt_of_le hg b2W.size
  rw [hW]
  clear H1 H2 hn hb1 hg hm hs hsl xR bR bW b1W zR b2W hW
  obtain ⟨X, hX⟩ : ∃ X, w1.heap.size = X := ⟨_, rfl⟩
  rw [hX] at xW ⊢
  clear hX
  obtain ⟨⟨k0, k1, k2, k3, k4⟩, _⟩ := cells5 xW
  have HX : Hid _ := And.intro hnW (And.intro hslW (And.intro b0W (And.intro xW hgW)))
  clear hnW hslW b0W xW hgW
  go_wp2_with fail
  refine Calls.mono (has_p _ _ 97 _ HX.out.2.1 kn_cn (by simp)) ?_
  rintro e w3 ⟨rfl, hb3⟩
  rw [kn_a]
  have hs3 := cell_of (hb3.block g HX.out.2.2.2.2) hsW
  have x3 := (hb3.block X (lt_of HX.out.2.2.2.1)).trans HX.out.2.2.2.1
  obtain ⟨⟨l0, l1, l2, l3, l4⟩, _⟩ := cells5 x3
  have H3 : Hid _ := And.intro hb3 x3
  clear hb3 x3 k0 k1 k2 k3 k4 hsW hmW
  go_wp2_with fail
  refine Calls.mono (has_p _ _ 99 _ (HX.out.2.1.below H3.out.1) kn_cn (by simp)) ?_
  rintro e w4 ⟨rfl, hb4⟩
  rw [kn_c]
  have x4 := (hb4.block X (lt_of H3.out.2)).trans H3.out.2
  have b4 := H3.out.1.trans (hb4.mono H3.out.1.size)
  obtain ⟨⟨k0, k1, k2, k3, k4⟩, _⟩ := cells5 x4
  have H4 : Hid _ := And.intro b4 x4
  clear hb4 x4 b4 l0 l1 l2 l3 l4 hs3
  go_wp2_with fail
  have hn4 := HX.out.1.fro (fun _ q => q) H4.out.1.size (fun g _ hgs => H4.out.1.block g hgs)
  refine Calls.mono (positions_p hn4 kn_sm (by rw [kn_wt]; omega) 100 (by omega) (by omega)) ?_
  rintro e w5 ⟨rfl, hb5⟩
  rw [kn_po]
  have x5 := (hb5.block X (lt_of H4.out.2)).trans H4.out.2
  have b5 := H4.out.1.trans (hb5.mono H4.out.1.size)
  obtain ⟨⟨l0, l1, l2, l3, l4⟩, _⟩ := cells5 x5
  have H5 : Hid _ := And.intro b5 x5
  clear hb5 x5 b5 k0 k1 k2 k3 k4 hn4
  go_wp2_with fail
  have hn5 := HX.out.1.fro (fun _ q => q) H5.out.1.size (fun g _ hgs => H5.out.1.block g hgs)
  refine Calls.mono (deep_p hn5 kn_sm (by rw [kn_wt]; omega)) ?_
  rintro e w6 ⟨rfl, hb6⟩
  rw [kn_dp]
  have H6 : Hid _ := HX.out.2.2.1.trans ((H5.out.1.trans (hb6.mono H5.out.1.size)).mono HX.out.2.2.1.size)
  clear hb6 hn5 l0 l1 l2 l3 l4
  go_wp2_with fail
  go_ret
  exact ⟨rfl, H6.out⟩
end Go.Proofs.Ythlkbijpphdblaa
