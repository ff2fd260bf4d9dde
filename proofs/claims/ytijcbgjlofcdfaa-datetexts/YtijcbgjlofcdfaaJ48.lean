/- Joined: W6, W6b. -/
import Derived.Test.YtijcbgjlofcdfaaPr1
import Derived.Test.YtijcbgjlofcdfaaJ42
import Derived.Test.YtijcbgjlofcdfaaJ43
import Derived.Test.YtijcbgjlofcdfaaJ44
import Derived.Test.YtijcbgjlofcdfaaPs1
namespace Go.Proofs.Ytijcbgjlofcdfaa
open Go.RowKit
set_option linter.unusedVariables false

def PR (k : Int) (s : ByteArray) : Mo × Int := if 1 ≤ k ∧ k ≤ 8 then ((prM k (bl s)).getD z0, if (prM k (bl s)).isSome then 0 else 2) else (z0, 1)
theorem parse_pk (k : Int) (s : ByteArray) (w : World) (hs : s.size ≤ maxLen) : Calls Try.prog 10 #[.int .i64 k, .string s] w fun e w' => e = .returned (.tuple #[moV (PR k s).1, .int .i64 (PR k s).2]) ∧ Below w.heap.size w w' := by
  unfold PR
  by_cases h : 1 ≤ k ∧ k ≤ 8
  · rw [if_pos h]
    exact parse_k k s w hs h.1 h.2
  · rw [if_neg h]
    exact parse_bad k s w hs h
set_option maxHeartbeats 800000 in
theorem parse_rbad (k : Int) (s : ByteArray) (w : World) (h : ¬ (1 ≤ k ∧ k ≤ 8)) : Calls Try.prog 11 #[.int .i64 k, .string s] w fun e w' => e = .returned (.tuple #[moV z0, .int .i64 1]) ∧ Below w.heap.size w w' := by
  by_cases h1 : k < 1
  · have d1 : decide (k < 1) = true := by simpa using h1
    go_enter Try.func11, Try.ntmps11
    go_wp2_with fail
    exact bodyPost_ret (v := .tuple #[moV z0, .int .i64 1]) (by simp [results, Try.results11, go_sem]) rfl ⟨rfl, (Below.refl _ _).alloc (Nat.le_refl _) _⟩
  · have d1 : decide (k < 1) = false := by simpa using h1
    have h8 : 8 < k := by omega
    have d2 : decide (8 < k) = true := by simpa using h8
    go_enter Try.func11, Try.ntmps11
    go_wp2_with fail
    exact bodyPost_ret (v := .tuple #[moV z0, .int .i64 1]) (by simp [results, Try.results11, go_sem]) rfl ⟨rfl, (Below.refl _ _).alloc (Nat.le_refl _) _⟩
theorem parse_rk (k : Int) (s : ByteArray) (w : World) (hs : s.size ≤ maxLen) : Calls Try.prog 11 #[.int .i64 k, .string s] w fun e w' => e = .returned (.tuple #[moV (PR k s).1, .int .i64 (PR k s).2]) ∧ Below w.heap.size w w' := by
  unfold PR
  by_cases h : 1 ≤ k ∧ k ≤ 8
  · rw [if_pos h]
    have hk : k = 1 ∨ k = 2 ∨ k = 3 ∨ k = 4 ∨ k = 5 ∨ k = 6 ∨ k = 7 ∨ k = 8 := by omega
    rcases hk with rfl | rfl | rfl | rfl | rfl | rfl | rfl | rfl
    · exact parse_r1 s w hs
    · exact parse_r2 s w hs
    · exact parse_r3 s w hs
    · exact parse_r4 s w hs
    · exact parse_r5 s w hs
    · exact parse_r6 s w hs
    · exact parse_r7 s w hs
    · exact parse_r8 s w hs
  · rw [if_neg h]
    exact parse_rbad k s w h
end Go.Proofs.Ytijcbgjlofcdfaa
namespace Go.Proofs.Ytijcbgjlofcdfaa
open Go.RowKit
set_option linter.unusedVariables false

theorem bl_al {a b : World} (h : Below a.heap.size a b) (o : Obj) : Below a.heap.size a (b.alloc o) := h.alloc h.size _
set_option maxRecDepth 8000 in
set_option maxHeartbeats 4000000 in
theorem texts_s (kind : Int) (s : ByteArray) (w : World) : Calls Try.prog 3 #[.int .i64 kind, .string s] w fun e w' => e = .returned (.bool true) ∧ Below w.heap.size w w' := by
  have HK : Hid _ := And.intro (fun W : World => known_p W) trivial
  have hm : (200 : Nat) ≤ maxLen := by decide
  by_cases c1 : 200 < s.size
  · have d1 : decide ((200 : Int) < (s.size : Int)) = true := by simp; omega
    go_enter Try.func3, Try.ntmps3
    go_wp2_with fail
    refine Calls.mono (HK.out.1 _) ?_
    rintro e w1 ⟨rfl, hb1⟩
    go_wp2_with fail
    go_ret
    exact ⟨rfl, hb1⟩
  · have d1 : decide ((200 : Int) < (s.size : Int)) = false := by simp; omega
    have hs : s.size ≤ maxLen := by omega
    have HC : Hid _ := And.intro (fun (k : Int) (W : World) => parse_pk k s W hs) (And.intro (fun (k : Int) (W : World) => parse_rk k s W hs) (And.intro (fun W : World => span_k s W hs) (fun W : World => parseSpan_r s W hs)))
    go_enter Try.func3, Try.ntmps3
    go_wp2_with fail
    refine Calls.mono (HK.out.1 _) ?_
    rintro e w1 ⟨rfl, hb1⟩
    have HB : Hid _ := hb1
    clear hb1
    go_wp2_with fail
    go_loopg [5] 11 (fun g v5 wr => ∃ k : Nat, k + g = 11 ∧ v5 = .int .i64 (k : Int) ∧ Below w.heap.size w wr)
    case atStart => exact ⟨0, by omega, rfl, HB.out⟩
    case round =>
      obtain ⟨k, hkg, rfl, hbr⟩ := hrel
      have HR : Hid _ := hbr
      clear hbr HB
      by_cases hlt : k ≤ 10
      · obtain ⟨g, rfl⟩ : ∃ g, gk = g + 1 := ⟨gk - 1, by omega⟩
        have d2 : decide ((k : Int) ≤ 10) = true := by simp; omega
        have hp1 := HC.out.1 (k : Int) wr
        have hp2 := HC.out.2.1 (k : Int)
        obtain ⟨P, hP⟩ : ∃ P, PR (k : Int) s = P := ⟨_, rfl⟩
        rw [hP] at hp1 hp2
        obtain ⟨A, E⟩ := P
        dsimp only at hp1 hp2
        have HP : Hid _ := And.intro hp1 hp2
        clear hp1 hp2 hP
        go_wp2_with fail
        refine Calls.mono HP.out.1 ?_
        rintro e w2 ⟨rfl, hb2⟩
        have x1 := nw_heap w2 (.cells (moC A) 24)
        have HB2 : Hid _ := bl_al hb2 (.cells (moC A) 24)
        clear hb2
        go_upto_region 9 with fail
        obtain ⟨V1, hV1⟩ : ∃ V, w2.alloc (.cells (moC A) 24) = V := ⟨_, rfl⟩
        rw [hV1] at x1 HB2 ⊢
        obtain ⟨X1, hX1⟩ : ∃ X, w2.heap.size = X := ⟨_, rfl⟩
        rw [hX1] at x1 ⊢
        clear hV1 hX1
        go_wp2_with fail
        refine Calls.mono (HP.out.2 _) ?_
        rintro e w3 ⟨rfl, hb3⟩
        replace x1 := (hb3.block _ (lt_of x1)).trans x1
        have x2 := nw_heap w3 (.cells (moC A) 28)
        replace x1 := ((bl_al (Below.refl _ w3) (.cells (moC A) 28)).block _ (lt_of x1)).trans x1
        have HB3 : Hid _ := bl_al hb3 (.cells (moC A) 28)
        clear hb3
        go_upto_region 10 with fail
        obtain ⟨V2, hV2⟩ : ∃ V, w3.alloc (.cells (moC A) 28) = V := ⟨_, rfl⟩
        rw [hV2] at x1 x2 HB3 ⊢
        obtain ⟨X2, hX2⟩ : ∃ X, w3.heap.size = X := ⟨_, rfl⟩
        rw [hX2] at x2 ⊢
        clear hV2 hX2
        obtain ⟨⟨a0, a1, a2, a3, a4, a5, a6, a7⟩, _⟩ := blk8 x1
        obtain ⟨⟨b0, b1, b2, b3, b4, b5, b6, b7⟩, _⟩ := blk8 x2
        clear x1 x2
        go_wp2_with fail
        go_roundg g
        case measure => omega
        case rel => exact ⟨k + 1, by omega, by simp, HR.out.trans ((HB2.out.trans (HB3.out.mono HB2.out.size)).mono HR.out.size)⟩
      · have d2 : decide ((k : Int) ≤ 10) = false := by simp; omega
        have hp1 := HC.out.1 kind wr
        have hp2 := HC.out.2.1 kind
        obtain ⟨P, hP⟩ : ∃ P, PR kind s = P := ⟨_, rfl⟩
        rw [hP] at hp1 hp2
        obtain ⟨A, E⟩ := P
        dsimp only at hp1 hp2
        have hq1 := HC.out.2.2.1
        have hq2 : ∀ W : World, Calls Try.prog 13 #[.string s] W fun e w' => e = .returned (.tuple #[spV ((prP (bl s)).getD sp0), .int .i64 (if (prP (bl s)).isSome then 0 else 2)]) ∧ Below W.heap.size W w' := HC.out.2.2.2
        generalize (prP (bl s)).getD sp0 = B at hq1 hq2
        generalize (if (prP (bl s)).isSome then (0 : Int) else 2) = F at hq1 hq2
        have HP : Hid _ := And.intro hp1 (And.intro hp2 (And.intro hq1 hq2))
        clear hp1 hp2 hP hq1 hq2
        go_wp2_with fail
        refine Calls.mono (HP.out.1) ?_
        rintro e w2 ⟨rfl, hb2⟩
        have x2 := nw_heap w2 (.cells (moC A) 24)
        have HB2 : Hid _ := bl_al hb2 (.cells (moC A) 24)
        clear hb2
        go_upto_region 13 with fail
        obtain ⟨V2, hV2⟩ : ∃ V, w2.alloc (.cells (moC A) 24) = V := ⟨_, rfl⟩
        rw [hV2] at x2 HB2 ⊢
        obtain ⟨X2, hX2⟩ : ∃ X, w2.heap.size = X := ⟨_, rfl⟩
        rw [hX2] at x2 ⊢
        clear hV2 hX2
        go_wp2_with fail
        refine Calls.mono (HP.out.2.1 _) ?_
        rintro e w3 ⟨rfl, hb3⟩
        replace x2 := (hb3.block _ (lt_of x2)).trans x2
        have x3 := nw_heap w3 (.cells (moC A) 28)
        replace x2 := ((bl_al (Below.refl _ w3) (.cells (moC A) 28)).block _ (lt_of x2)).trans x2
        have HB3 : Hid _ := bl_al hb3 (.cells (moC A) 28)
        clear hb3
        go_upto_region 14 with fail
        obtain ⟨V3, hV3⟩ : ∃ V, w3.alloc (.cells (moC A) 28) = V := ⟨_, rfl⟩
        rw [hV3] at x2 x3 HB3 ⊢
        obtain ⟨X3, hX3⟩ : ∃ X, w3.heap.size = X := ⟨_, rfl⟩
        rw [hX3] at x3 ⊢
        clear hV3 hX3
        go_wp2_with fail
        refine Calls.mono (HP.out.2.2.1 _) ?_
        rintro e w4 ⟨rfl, hb4⟩
        replace x2 := (hb4.block _ (lt_of x2)).trans x2
        replace x3 := (hb4.block _ (lt_of x3)).trans x3
        have x4 := nw_heap w4 (.cells (spC B) 32)
        replace x2 := ((bl_al (Below.refl _ w4) (.cells (spC B) 32)).block _ (lt_of x2)).trans x2
        replace x3 := ((bl_al (Below.refl _ w4) (.cells (spC B) 32)).block _ (lt_of x3)).trans x3
        have HB4 : Hid _ := bl_al hb4 (.cells (spC B) 32)
        clear hb4
        go_upto_region 15 with fail
        obtain ⟨V4, hV4⟩ : ∃ V, w4.alloc (.cells (spC B) 32) = V := ⟨_, rfl⟩
        rw [hV4] at x2 x3 x4 HB4 ⊢
        obtain ⟨X4, hX4⟩ : ∃ X, w4.heap.size = X := ⟨_, rfl⟩
        rw [hX4] at x4 ⊢
        clear hV4 hX4
        go_wp2_with fail
        refine Calls.mono (HP.out.2.2.2 _) ?_
        rintro e w5 ⟨rfl, hb5⟩
        replace x2 := (hb5.block _ (lt_of x2)).trans x2
        replace x3 := (hb5.block _ (lt_of x3)).trans x3
        replace x4 := (hb5.block _ (lt_of x4)).trans x4
        have x5 := nw_heap w5 (.cells (spC B) 35)
        replace x2 := ((bl_al (Below.refl _ w5) (.cells (spC B) 35)).block _ (lt_of x2)).trans x2
        replace x3 := ((bl_al (Below.refl _ w5) (.cells (spC B) 35)).block _ (lt_of x3)).trans x3
        replace x4 := ((bl_al (Below.refl _ w5) (.cells (spC B) 35)).block _ (lt_of x4)).trans x4
        have HB5 : Hid _ := bl_al hb5 (.cells (spC B) 35)
        clear hb5
        go_upto_region 16 with fail
        obtain ⟨V5, hV5⟩ : ∃ V, w5.alloc (.cells (spC B) 35) = V := ⟨_, rfl⟩
        rw [hV5] at x2 x3 x4 x5 HB5 ⊢
        obtain ⟨X5, hX5⟩ : ∃ X, w5.heap.size = X := ⟨_, rfl⟩
        rw [hX5] at x5 ⊢
        clear hV5 hX5
        obtain ⟨⟨a0, a1, a2, a3, a4, a5, a6, a7⟩, _⟩ := blk8 x2
        obtain ⟨⟨b0, b1, b2, b3, b4, b5, b6, b7⟩, _⟩ := blk8 x3
        obtain ⟨c0, c1, c2⟩ := blk3 x4
        obtain ⟨e0, e1, e2⟩ := blk3 x5
        clear x2 x3 x4 x5
        go_wp2_with fail
        go_ret
        have h2 := HR.out.trans (HB2.out.mono HR.out.size)
        have h3 := h2.trans (HB3.out.mono h2.size)
        have h4 := h3.trans (HB4.out.mono h3.size)
        exact ⟨rfl, h4.trans (HB5.out.mono h4.size)⟩
end Go.Proofs.Ytijcbgjlofcdfaa
