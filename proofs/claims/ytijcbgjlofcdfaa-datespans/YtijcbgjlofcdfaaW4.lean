/- DateOrders: the walk. -/
import Derived.Test.YtijcbgjlofcdfaaW1
import Derived.Test.YtijcbgjlofcdfaaQr2
namespace Go.Proofs.Ytijcbgjlofcdfaa
open Go.RowKit
set_option linter.unusedVariables false

theorem Told.l {k : Int} {a : Mo} (h : Told k a) : MoL a := by
  have hy0 := h.y0
  have hy1 := h.y1
  have hz0 := h.z0
  have hz1 := h.z1
  exact ⟨h.ok.b (by omega) (by omega), h.ok.n0, h.ok.n1, by omega, by omega⟩
theorem parse_any (k : Int) (s : ByteArray) (hs : s.size ≤ maxLen) : ∃ (A : Mo) (e : Int), (e = 0 → Told k A) ∧ 0 ≤ e ∧ e ≤ 2 ∧ ∀ w, Calls Try.prog 10 #[.int .i64 k, .string s] w fun x w' => x = .returned (.tuple #[moV A, .int .i64 e]) ∧ Below w.heap.size w w' := by
  by_cases h : 1 ≤ k ∧ k ≤ 8
  · cases hp : prM k (bl s) with
    | none =>
      refine ⟨z0, 2, fun h => absurd h (by omega), by omega, by omega, fun w => ?_⟩
      have q := parse_k k s w hs h.1 h.2
      rw [hp] at q
      exact q
    | some A =>
      refine ⟨A, 0, fun _ => pr_told hp, by omega, by omega, fun w => ?_⟩
      have q := parse_k k s w hs h.1 h.2
      rw [hp] at q
      exact q
  · exact ⟨z0, 1, fun h => absurd h (by omega), by omega, by omega, fun w => parse_bad k s w hs h⟩
set_option maxRecDepth 8000 in
set_option maxHeartbeats 8000000 in
theorem orders_s (kind : Int) (s t u : ByteArray) (w : World) : Calls Try.prog 4 #[.int .i64 kind, .string s, .string t, .string u] w fun e w' => e = .returned (.bool true) ∧ Below w.heap.size w w' := by
  have HK : Hid _ := And.intro (fun W : World => known_p W) trivial
  have hm : (200 : Nat) ≤ maxLen := by decide
  by_cases c1 : 200 < s.size
  · have d1 : decide ((200 : Int) < (s.size : Int)) = true := by simp; omega
    go_enter Try.func4, Try.ntmps4
    go_wp2_with fail
    refine Calls.mono (HK.out.1 _) ?_
    rintro e w1 ⟨rfl, hb1⟩
    have HB : Hid _ := hb1
    clear hb1
    go_wp2_with fail
    go_ret
    exact ⟨rfl, HB.out⟩
  by_cases c2 : 200 < t.size
  · have d1 : decide ((200 : Int) < (s.size : Int)) = false := by simp; omega
    have d2 : decide ((200 : Int) < (t.size : Int)) = true := by simp; omega
    go_enter Try.func4, Try.ntmps4
    go_wp2_with fail
    refine Calls.mono (HK.out.1 _) ?_
    rintro e w1 ⟨rfl, hb1⟩
    have HB : Hid _ := hb1
    clear hb1
    go_wp2_with fail
    go_ret
    exact ⟨rfl, HB.out⟩
  by_cases c3 : 200 < u.size
  · have d1 : decide ((200 : Int) < (s.size : Int)) = false := by simp; omega
    have d2 : decide ((200 : Int) < (t.size : Int)) = false := by simp; omega
    have d3 : decide ((200 : Int) < (u.size : Int)) = true := by simp; omega
    go_enter Try.func4, Try.ntmps4
    go_wp2_with fail
    refine Calls.mono (HK.out.1 _) ?_
    rintro e w1 ⟨rfl, hb1⟩
    have HB : Hid _ := hb1
    clear hb1
    go_wp2_with fail
    go_ret
    exact ⟨rfl, HB.out⟩
  have d1 : decide ((200 : Int) < (s.size : Int)) = false := by simp; omega
  have d2 : decide ((200 : Int) < (t.size : Int)) = false := by simp; omega
  have d3 : decide ((200 : Int) < (u.size : Int)) = false := by simp; omega
  obtain ⟨A, ea, hA, ea0, ea2, q1⟩ := parse_any kind s (by omega)
  obtain ⟨B, eb, hB, eb0, eb2, q2⟩ := parse_any kind t (by omega)
  obtain ⟨C, ec, hC, ec0, ec2, q3⟩ := parse_any kind u (by omega)
  have HP : Hid _ := And.intro q1 (And.intro q2 q3)
  clear q1 q2 q3 hm c1 c2 c3
  by_cases h1 : ea = 0
  case neg =>
    have k1 : (ea != 0) = true := by simpa using h1
    clear hA hB hC
    go_enter Try.func4, Try.ntmps4
    go_wp2_with fail
    refine Calls.mono (HK.out.1 _) ?_
    rintro e w1 ⟨rfl, hb1⟩
    have HB : Hid _ := hb1
    clear hb1
    go_wp2_with fail
    refine Calls.mono (HP.out.1 _) ?_
    rintro e w2 ⟨rfl, hb2⟩
    go_upto_region 6 with fail
    obtain ⟨V0, hV0⟩ : ∃ V, w2.alloc (.cells (moC A) 24) = V := ⟨_, rfl⟩
    rw [hV0]
    have hbV : Below w2.heap.size w2 V0 := by rw [← hV0]; exact (Below.refl _ _).alloc (Nat.le_refl _) _
    have x0 : V0.heap[w2.heap.size]? = some (.cells (moC A) 24 (0, 0)) := by rw [← hV0]; exact nw_heap _ _
    clear hV0
    have hstep : Below w1.heap.size w1 V0 := bl_step hb2 hbV
    have HB : Hid (Below w.heap.size w V0) := HB.out.trans (hstep.mono HB.out.size)
    clear hstep hbV
    clear hb2
    go_wp2_with fail
    refine Calls.mono (HP.out.2.1 _) ?_
    rintro e w3 ⟨rfl, hb3⟩
    go_upto_region 7 with fail
    obtain ⟨V1, hV1⟩ : ∃ V, w3.alloc (.cells (moC B) 24) = V := ⟨_, rfl⟩
    rw [hV1]
    have hbV : Below w3.heap.size w3 V1 := by rw [← hV1]; exact (Below.refl _ _).alloc (Nat.le_refl _) _
    have x1 : V1.heap[w3.heap.size]? = some (.cells (moC B) 24 (0, 0)) := by rw [← hV1]; exact nw_heap _ _
    clear hV1
    have hstep : Below V0.heap.size V0 V1 := bl_step hb3 hbV
    replace x0 := (hstep.block _ (lt_of x0)).trans x0
    have HB : Hid (Below w.heap.size w V1) := HB.out.trans (hstep.mono HB.out.size)
    clear hstep hbV
    clear hb3
    go_wp2_with fail
    refine Calls.mono (HP.out.2.2 _) ?_
    rintro e w4 ⟨rfl, hb4⟩
    go_upto_region 8 with fail
    obtain ⟨V2, hV2⟩ : ∃ V, w4.alloc (.cells (moC C) 24) = V := ⟨_, rfl⟩
    rw [hV2]
    have hbV : Below w4.heap.size w4 V2 := by rw [← hV2]; exact (Below.refl _ _).alloc (Nat.le_refl _) _
    have x2 : V2.heap[w4.heap.size]? = some (.cells (moC C) 24 (0, 0)) := by rw [← hV2]; exact nw_heap _ _
    clear hV2
    have hstep : Below V1.heap.size V1 V2 := bl_step hb4 hbV
    replace x0 := (hstep.block _ (lt_of x0)).trans x0
    replace x1 := (hstep.block _ (lt_of x1)).trans x1
    have HB : Hid (Below w.heap.size w V2) := HB.out.trans (hstep.mono HB.out.size)
    clear hstep hbV
    clear hb4
    clear x0 x1 x2
    go_wp2_with fail
    go_ret
    exact ⟨rfl, HB.out⟩
  by_cases h2 : eb = 0
  case neg =>
    have k2 : (eb != 0) = true := by simpa using h2
    subst h1
    clear hA hB hC
    go_enter Try.func4, Try.ntmps4
    go_wp2_with fail
    refine Calls.mono (HK.out.1 _) ?_
    rintro e w1 ⟨rfl, hb1⟩
    have HB : Hid _ := hb1
    clear hb1
    go_wp2_with fail
    refine Calls.mono (HP.out.1 _) ?_
    rintro e w2 ⟨rfl, hb2⟩
    go_upto_region 6 with fail
    obtain ⟨V0, hV0⟩ : ∃ V, w2.alloc (.cells (moC A) 24) = V := ⟨_, rfl⟩
    rw [hV0]
    have hbV : Below w2.heap.size w2 V0 := by rw [← hV0]; exact (Below.refl _ _).alloc (Nat.le_refl _) _
    have x0 : V0.heap[w2.heap.size]? = some (.cells (moC A) 24 (0, 0)) := by rw [← hV0]; exact nw_heap _ _
    clear hV0
    have hstep : Below w1.heap.size w1 V0 := bl_step hb2 hbV
    have HB : Hid (Below w.heap.size w V0) := HB.out.trans (hstep.mono HB.out.size)
    clear hstep hbV
    clear hb2
    go_wp2_with fail
    refine Calls.mono (HP.out.2.1 _) ?_
    rintro e w3 ⟨rfl, hb3⟩
    go_upto_region 7 with fail
    obtain ⟨V1, hV1⟩ : ∃ V, w3.alloc (.cells (moC B) 24) = V := ⟨_, rfl⟩
    rw [hV1]
    have hbV : Below w3.heap.size w3 V1 := by rw [← hV1]; exact (Below.refl _ _).alloc (Nat.le_refl _) _
    have x1 : V1.heap[w3.heap.size]? = some (.cells (moC B) 24 (0, 0)) := by rw [← hV1]; exact nw_heap _ _
    clear hV1
    have hstep : Below V0.heap.size V0 V1 := bl_step hb3 hbV
    replace x0 := (hstep.block _ (lt_of x0)).trans x0
    have HB : Hid (Below w.heap.size w V1) := HB.out.trans (hstep.mono HB.out.size)
    clear hstep hbV
    clear hb3
    go_wp2_with fail
    refine Calls.mono (HP.out.2.2 _) ?_
    rintro e w4 ⟨rfl, hb4⟩
    go_upto_region 8 with fail
    obtain ⟨V2, hV2⟩ : ∃ V, w4.alloc (.cells (moC C) 24) = V := ⟨_, rfl⟩
    rw [hV2]
    have hbV : Below w4.heap.size w4 V2 := by rw [← hV2]; exact (Below.refl _ _).alloc (Nat.le_refl _) _
    have x2 : V2.heap[w4.heap.size]? = some (.cells (moC C) 24 (0, 0)) := by rw [← hV2]; exact nw_heap _ _
    clear hV2
    have hstep : Below V1.heap.size V1 V2 := bl_step hb4 hbV
    replace x0 := (hstep.block _ (lt_of x0)).trans x0
    replace x1 := (hstep.block _ (lt_of x1)).trans x1
    have HB : Hid (Below w.heap.size w V2) := HB.out.trans (hstep.mono HB.out.size)
    clear hstep hbV
    clear hb4
    clear x0 x1 x2
    go_wp2_with fail
    go_ret
    exact ⟨rfl, HB.out⟩
  by_cases h3 : ec = 0
  case neg =>
    have k3 : (ec != 0) = true := by simpa using h3
    subst h1 h2
    clear hA hB hC
    go_enter Try.func4, Try.ntmps4
    go_wp2_with fail
    refine Calls.mono (HK.out.1 _) ?_
    rintro e w1 ⟨rfl, hb1⟩
    have HB : Hid _ := hb1
    clear hb1
    go_wp2_with fail
    refine Calls.mono (HP.out.1 _) ?_
    rintro e w2 ⟨rfl, hb2⟩
    go_upto_region 6 with fail
    obtain ⟨V0, hV0⟩ : ∃ V, w2.alloc (.cells (moC A) 24) = V := ⟨_, rfl⟩
    rw [hV0]
    have hbV : Below w2.heap.size w2 V0 := by rw [← hV0]; exact (Below.refl _ _).alloc (Nat.le_refl _) _
    have x0 : V0.heap[w2.heap.size]? = some (.cells (moC A) 24 (0, 0)) := by rw [← hV0]; exact nw_heap _ _
    clear hV0
    have hstep : Below w1.heap.size w1 V0 := bl_step hb2 hbV
    have HB : Hid (Below w.heap.size w V0) := HB.out.trans (hstep.mono HB.out.size)
    clear hstep hbV
    clear hb2
    go_wp2_with fail
    refine Calls.mono (HP.out.2.1 _) ?_
    rintro e w3 ⟨rfl, hb3⟩
    go_upto_region 7 with fail
    obtain ⟨V1, hV1⟩ : ∃ V, w3.alloc (.cells (moC B) 24) = V := ⟨_, rfl⟩
    rw [hV1]
    have hbV : Below w3.heap.size w3 V1 := by rw [← hV1]; exact (Below.refl _ _).alloc (Nat.le_refl _) _
    have x1 : V1.heap[w3.heap.size]? = some (.cells (moC B) 24 (0, 0)) := by rw [← hV1]; exact nw_heap _ _
    clear hV1
    have hstep : Below V0.heap.size V0 V1 := bl_step hb3 hbV
    replace x0 := (hstep.block _ (lt_of x0)).trans x0
    have HB : Hid (Below w.heap.size w V1) := HB.out.trans (hstep.mono HB.out.size)
    clear hstep hbV
    clear hb3
    go_wp2_with fail
    refine Calls.mono (HP.out.2.2 _) ?_
    rintro e w4 ⟨rfl, hb4⟩
    go_upto_region 8 with fail
    obtain ⟨V2, hV2⟩ : ∃ V, w4.alloc (.cells (moC C) 24) = V := ⟨_, rfl⟩
    rw [hV2]
    have hbV : Below w4.heap.size w4 V2 := by rw [← hV2]; exact (Below.refl _ _).alloc (Nat.le_refl _) _
    have x2 : V2.heap[w4.heap.size]? = some (.cells (moC C) 24 (0, 0)) := by rw [← hV2]; exact nw_heap _ _
    clear hV2
    have hstep : Below V1.heap.size V1 V2 := bl_step hb4 hbV
    replace x0 := (hstep.block _ (lt_of x0)).trans x0
    replace x1 := (hstep.block _ (lt_of x1)).trans x1
    have HB : Hid (Below w.heap.size w V2) := HB.out.trans (hstep.mono HB.out.size)
    clear hstep hbV
    clear hb4
    clear x0 x1 x2
    go_wp2_with fail
    go_ret
    exact ⟨rfl, HB.out⟩
  subst h1 h2 h3
  have tA := (hA rfl).l
  have tB := (hB rfl).l
  have tC := (hC rfl).l
  have q4 := fun W : World => cmp_p A B W tA tB
  have q5 := fun W : World => cmp_p B A W tB tA
  have q6 := fun W : World => cmp_p B C W tB tC
  have q7 := fun W : World => cmp_r A B W tA tB
  have q8 := fun W : World => cmp_r B C W tB tC
  have q9 := fun W : World => cmp_p A A W tA tA
  have q10 := fun W : World => cmp_p A C W tA tC
  have hless := fun h h' e e' => cmp_less (a := A) (b := B) (c := C) h h' e e'
  rw [cmp_self] at q9
  have hin := cmp_in A B
  have hturn := cmp_turn A B
  generalize cmpM A B = X at *
  generalize cmpM B A = Y at *
  generalize cmpM B C = Z at *
  generalize cmpM A C = V at *
  have HC : Hid _ := And.intro q4 (And.intro q5 (And.intro q6 (And.intro q7 (And.intro q8 (And.intro q9 q10)))))
  clear q4 q5 q6 q7 q8 q9 q10 tA tB tC hA hB hC ea0 ea2 eb0 eb2 ec0 ec2
  have HL : Hid _ := And.intro hless (And.intro hin hturn)
  clear hless hin hturn
  have n1 : (X != X) = false := by simp
  have n2 : (Z != Z) = false := by simp
  obtain ⟨Ak, Ay, Am, Ad, As, An, Ah, Az⟩ := A
  obtain ⟨Bk, By, Bm, Bd, Bs, Bn, Bh, Bz⟩ := B
  obtain ⟨Ck, Cy, Cm, Cd, Cs, Cn, Ch, Cz⟩ := C
  go_enter Try.func4, Try.ntmps4
  go_wp2_with fail
  refine Calls.mono (HK.out.1 _) ?_
  rintro e w1 ⟨rfl, hb1⟩
  have HB : Hid _ := hb1
  clear hb1
  go_wp2_with fail
  refine Calls.mono (HP.out.1 _) ?_
  rintro e w2 ⟨rfl, hb2⟩
  go_upto_region 6 with fail
  obtain ⟨V0, hV0⟩ : ∃ V, w2.alloc (.cells (moC ⟨Ak, Ay, Am, Ad, As, An, Ah, Az⟩) 24) = V := ⟨_, rfl⟩
  rw [hV0]
  have hbV : Below w2.heap.size w2 V0 := by rw [← hV0]; exact (Below.refl _ _).alloc (Nat.le_refl _) _
  have x0 : V0.heap[w2.heap.size]? = some (.cells (moC ⟨Ak, Ay, Am, Ad, As, An, Ah, Az⟩) 24 (0, 0)) := by rw [← hV0]; exact nw_heap _ _
  clear hV0
  have hstep : Below w1.heap.size w1 V0 := bl_step hb2 hbV
  have HB : Hid (Below w.heap.size w V0) := HB.out.trans (hstep.mono HB.out.size)
  clear hstep hbV
  clear hb2
  go_wp2_with fail
  refine Calls.mono (HP.out.2.1 _) ?_
  rintro e w3 ⟨rfl, hb3⟩
  go_upto_region 7 with fail
  obtain ⟨V1, hV1⟩ : ∃ V, w3.alloc (.cells (moC ⟨Bk, By, Bm, Bd, Bs, Bn, Bh, Bz⟩) 24) = V := ⟨_, rfl⟩
  rw [hV1]
  have hbV : Below w3.heap.size w3 V1 := by rw [← hV1]; exact (Below.refl _ _).alloc (Nat.le_refl _) _
  have x1 : V1.heap[w3.heap.size]? = some (.cells (moC ⟨Bk, By, Bm, Bd, Bs, Bn, Bh, Bz⟩) 24 (0, 0)) := by rw [← hV1]; exact nw_heap _ _
  clear hV1
  have hstep : Below V0.heap.size V0 V1 := bl_step hb3 hbV
  replace x0 := (hstep.block _ (lt_of x0)).trans x0
  have HB : Hid (Below w.heap.size w V1) := HB.out.trans (hstep.mono HB.out.size)
  clear hstep hbV
  clear hb3
  go_wp2_with fail
  refine Calls.mono (HP.out.2.2 _) ?_
  rintro e w4 ⟨rfl, hb4⟩
  go_upto_region 8 with fail
  obtain ⟨V2, hV2⟩ : ∃ V, w4.alloc (.cells (moC ⟨Ck, Cy, Cm, Cd, Cs, Cn, Ch, Cz⟩) 24) = V := ⟨_, rfl⟩
  rw [hV2]
  have hbV : Below w4.heap.size w4 V2 := by rw [← hV2]; exact (Below.refl _ _).alloc (Nat.le_refl _) _
  have x2 : V2.heap[w4.heap.size]? = some (.cells (moC ⟨Ck, Cy, Cm, Cd, Cs, Cn, Ch, Cz⟩) 24 (0, 0)) := by rw [← hV2]; exact nw_heap _ _
  clear hV2
  have hstep : Below V1.heap.size V1 V2 := bl_step hb4 hbV
  replace x0 := (hstep.block _ (lt_of x0)).trans x0
  replace x1 := (hstep.block _ (lt_of x1)).trans x1
  have HB : Hid (Below w.heap.size w V2) := HB.out.trans (hstep.mono HB.out.size)
  clear hstep hbV
  clear hb4
  go_upto_region 10 with fail
  obtain ⟨⟨a0', a1', a2', a3', a4', a5', a6', a7'⟩, _⟩ := blk8 x0
  obtain ⟨⟨b0', b1', b2', b3', b4', b5', b6', b7'⟩, _⟩ := blk8 x1
  go_wp2_with fail
  refine Calls.mono (HC.out.1 _) ?_
  rintro e w5 ⟨rfl, hb5⟩
  clear a0' a1' a2' a3' a4' a5' a6' a7'
  clear b0' b1' b2' b3' b4' b5' b6' b7'
  replace x0 := (hb5.block _ (lt_of x0)).trans x0
  replace x1 := (hb5.block _ (lt_of x1)).trans x1
  replace x2 := (hb5.block _ (lt_of x2)).trans x2
  have HB : Hid (Below w.heap.size w w5) := HB.out.trans (hb5.mono HB.out.size)
  clear hb5
  obtain ⟨⟨a0', a1', a2', a3', a4', a5', a6', a7'⟩, _⟩ := blk8 x1
  obtain ⟨⟨b0', b1', b2', b3', b4', b5', b6', b7'⟩, _⟩ := blk8 x0
  go_wp2_with fail
  refine Calls.mono (HC.out.2.1 _) ?_
  rintro e w6 ⟨rfl, hb6⟩
  clear a0' a1' a2' a3' a4' a5' a6' a7'
  clear b0' b1' b2' b3' b4' b5' b6' b7'
  replace x0 := (hb6.block _ (lt_of x0)).trans x0
  replace x1 := (hb6.block _ (lt_of x1)).trans x1
  replace x2 := (hb6.block _ (lt_of x2)).trans x2
  have HB : Hid (Below w.heap.size w w6) := HB.out.trans (hb6.mono HB.out.size)
  clear hb6
  obtain ⟨⟨a0', a1', a2', a3', a4', a5', a6', a7'⟩, _⟩ := blk8 x1
  obtain ⟨⟨b0', b1', b2', b3', b4', b5', b6', b7'⟩, _⟩ := blk8 x2
  go_wp2_with fail
  refine Calls.mono (HC.out.2.2.1 _) ?_
  rintro e w7 ⟨rfl, hb7⟩
  clear a0' a1' a2' a3' a4' a5' a6' a7'
  clear b0' b1' b2' b3' b4' b5' b6' b7'
  replace x0 := (hb7.block _ (lt_of x0)).trans x0
  replace x1 := (hb7.block _ (lt_of x1)).trans x1
  replace x2 := (hb7.block _ (lt_of x2)).trans x2
  have HB : Hid (Below w.heap.size w w7) := HB.out.trans (hb7.mono HB.out.size)
  clear hb7
  obtain ⟨⟨a0', a1', a2', a3', a4', a5', a6', a7'⟩, _⟩ := blk8 x0
  obtain ⟨⟨b0', b1', b2', b3', b4', b5', b6', b7'⟩, _⟩ := blk8 x1
  go_wp2_with fail
  refine Calls.mono (HC.out.2.2.2.1 _) ?_
  rintro e w8 ⟨rfl, hb8⟩
  clear a0' a1' a2' a3' a4' a5' a6' a7'
  clear b0' b1' b2' b3' b4' b5' b6' b7'
  replace x0 := (hb8.block _ (lt_of x0)).trans x0
  replace x1 := (hb8.block _ (lt_of x1)).trans x1
  replace x2 := (hb8.block _ (lt_of x2)).trans x2
  have HB : Hid (Below w.heap.size w w8) := HB.out.trans (hb8.mono HB.out.size)
  clear hb8
  obtain ⟨⟨a0', a1', a2', a3', a4', a5', a6', a7'⟩, _⟩ := blk8 x1
  obtain ⟨⟨b0', b1', b2', b3', b4', b5', b6', b7'⟩, _⟩ := blk8 x2
  go_wp2_with fail
  refine Calls.mono (HC.out.2.2.2.2.1 _) ?_
  rintro e w9 ⟨rfl, hb9⟩
  clear a0' a1' a2' a3' a4' a5' a6' a7'
  clear b0' b1' b2' b3' b4' b5' b6' b7'
  replace x0 := (hb9.block _ (lt_of x0)).trans x0
  replace x1 := (hb9.block _ (lt_of x1)).trans x1
  replace x2 := (hb9.block _ (lt_of x2)).trans x2
  have HB : Hid (Below w.heap.size w w9) := HB.out.trans (hb9.mono HB.out.size)
  clear hb9
  obtain ⟨⟨a0', a1', a2', a3', a4', a5', a6', a7'⟩, _⟩ := blk8 x0
  go_wp2_with fail
  refine Calls.mono (HC.out.2.2.2.2.2.1 _) ?_
  rintro e w10 ⟨rfl, hb10⟩
  clear a0' a1' a2' a3' a4' a5' a6' a7'
  replace x0 := (hb10.block _ (lt_of x0)).trans x0
  replace x1 := (hb10.block _ (lt_of x1)).trans x1
  replace x2 := (hb10.block _ (lt_of x2)).trans x2
  have HB : Hid (Below w.heap.size w w10) := HB.out.trans (hb10.mono HB.out.size)
  clear hb10
  go_upto_region 15 with fail
  obtain ⟨⟨a0', a1', a2', a3', a4', a5', a6', a7'⟩, _⟩ := blk8 x0
  obtain ⟨⟨b0', b1', b2', b3', b4', b5', b6', b7'⟩, _⟩ := blk8 x1
  obtain ⟨⟨c0', c1', c2', c3', c4', c5', c6', c7'⟩, _⟩ := blk8 x2
  have HX : Hid _ := And.intro x0 (And.intro x1 x2)
  clear x0 x1 x2 n1 n2
  by_cases hX : X = 2
  · have hY : Y = 2 := by rw [HL.out.2.2, if_pos hX]
    subst hX hY
    go_wp2_with fail
    go_ret
    exact ⟨rfl, HB.out⟩
  · have hY : Y = -X := by rw [HL.out.2.2, if_neg hX]
    have hin := HL.out.2.1
    have hr : -1 ≤ X ∧ X ≤ 1 := by omega
    obtain ⟨hr0, hr1⟩ := hr
    have k1 : (X == 2) = false := by simpa using hX
    have k2 : (X != 2) = true := by simpa using hX
    have k3 : (-X != -X) = false := by simp
    clear hin
    have HHX : Hid _ := hX
    subst hY
    clear hX
    by_cases r1 : X = -1
    · subst r1
      by_cases r2 : Z = -1
      · subst r2
        by_cases r3 : Ah = Bh
        · by_cases r4 : Bh = Ch
          · have hV := HL.out.1 rfl rfl r3 r4
            clear k1 k2 k3 hr0 hr1 HL
            subst r3 r4
            subst hV
            go_wp2_with fail
            refine Calls.mono (HC.out.2.2.2.2.2.2 _) ?_
            rintro e w11 ⟨rfl, hb11⟩
            have HB : Hid (Below w.heap.size w w11) := HB.out.trans (hb11.mono HB.out.size)
            clear hb11
            go_wp2_with fail
            go_ret
            exact ⟨rfl, HB.out⟩
          · clear k1 k2 k3 hr0 hr1 HL
            cases Ah <;> cases Bh <;> cases Ch <;> first | exact absurd rfl r4 | exact absurd r3 (by decide) | (clear r3 r4; go_wp2_with fail; go_ret; exact ⟨rfl, HB.out⟩)
        · clear k1 k2 k3 hr0 hr1 HL
          cases Ah <;> cases Bh <;> first | exact absurd rfl r3 | (clear r3; go_wp2_with fail; go_ret; exact ⟨rfl, HB.out⟩)
      · have k4 : (Z != -1) = true := by simpa using r2
        clear r2 k1 k2 k3 hr0 hr1
        go_wp2_with fail
        go_ret
        exact ⟨rfl, HB.out⟩
    · have k4 : (X != -1) = true := by simpa using r1
      clear r1
      go_wp2_with fail
      go_ret
      exact ⟨rfl, HB.out⟩
end Go.Proofs.Ytijcbgjlofcdfaa
