/- DateSpans: the walk. -/
import Derived.Test.YtijcbgjlofcdfaaW4
import Derived.Test.YtijcbgjlofcdfaaQr4
namespace Go.Proofs.Ytijcbgjlofcdfaa
open Go.RowKit
set_option linter.unusedVariables false

theorem sp_T {l : List Int} {p : Sp} (h : prP l = some p) : SpT p := by
  unfold prP at h
  dsimp only at h
  obtain ⟨l0, h0, h⟩ := Option.bind_eq_some_iff.1 h
  obtain ⟨y, hy, h⟩ := Option.bind_eq_some_iff.1 h
  obtain ⟨o, ho, h⟩ := Option.bind_eq_some_iff.1 h
  obtain ⟨d, hd, h⟩ := Option.bind_eq_some_iff.1 h
  obtain ⟨t, ht, h⟩ := Option.map_eq_some_iff.1 h
  have h1 := pt_in hy
  have h2 := pt_in ho
  have h3 := pt_in hd
  have h4 : 0 ≤ t.1 ∧ t.1 ≤ 100000000000000 ∧ 0 ≤ t.2 ∧ t.2 < 1000000000 := by
    split at ht
    · exact tm_in ht
    · split at ht
      · obtain rfl := Option.some.inj ht
        simp
      · simp at ht
  split at h
  · subst h
    constructor <;> dsimp only <;> omega
  · subst h
    constructor <;> dsimp only <;> omega
theorem span_any (s : ByteArray) (hs : s.size ≤ maxLen) : ∃ (A : Sp) (e : Int), (e = 0 → SpT A) ∧ 0 ≤ e ∧ e ≤ 2 ∧ ∀ w, Calls Try.prog 12 #[.string s] w fun x w' => x = .returned (.tuple #[spV A, .int .i64 e]) ∧ Below w.heap.size w w' := by
  cases hp : prP (bl s) with
  | none =>
    refine ⟨sp0, 2, fun h => absurd h (by omega), by omega, by omega, fun w => ?_⟩
    have q := span_k s w hs
    rw [hp] at q
    exact q
  | some A =>
    refine ⟨A, 0, fun _ => sp_T hp, by omega, by omega, fun w => ?_⟩
    have q := span_k s w hs
    rw [hp] at q
    exact q
theorem cmpP_in (a b : Sp) : -1 ≤ cmpP a b ∧ cmpP a b ≤ 2 := by
  have h4 := cmp4_in 1903 7 a b
  unfold cmpP
  dsimp only
  split <;> omega
set_option maxRecDepth 8000 in
set_option maxHeartbeats 8000000 in
theorem spans_s (s p q : ByteArray) (w : World) : Calls Try.prog 5 #[.string s, .string p, .string q] w fun e w' => e = .returned (.bool true) ∧ Below w.heap.size w w' := by
  have HK : Hid _ := And.intro (fun W : World => known_p W) trivial
  have hm : (200 : Nat) ≤ maxLen := by decide
  by_cases c1 : 200 < s.size
  · have d1 : decide ((200 : Int) < (s.size : Int)) = true := by simp; omega
    go_enter Try.func5, Try.ntmps5
    go_wp2_with fail
    refine Calls.mono (HK.out.1 _) ?_
    rintro e w1 ⟨rfl, hb1⟩
    have HB : Hid _ := hb1
    clear hb1
    go_wp2_with fail
    go_ret
    exact ⟨rfl, HB.out⟩
  by_cases c2 : 200 < p.size
  · have d1 : decide ((200 : Int) < (s.size : Int)) = false := by simp; omega
    have d2 : decide ((200 : Int) < (p.size : Int)) = true := by simp; omega
    go_enter Try.func5, Try.ntmps5
    go_wp2_with fail
    refine Calls.mono (HK.out.1 _) ?_
    rintro e w1 ⟨rfl, hb1⟩
    have HB : Hid _ := hb1
    clear hb1
    go_wp2_with fail
    go_ret
    exact ⟨rfl, HB.out⟩
  by_cases c3 : 200 < q.size
  · have d1 : decide ((200 : Int) < (s.size : Int)) = false := by simp; omega
    have d2 : decide ((200 : Int) < (p.size : Int)) = false := by simp; omega
    have d3 : decide ((200 : Int) < (q.size : Int)) = true := by simp; omega
    go_enter Try.func5, Try.ntmps5
    go_wp2_with fail
    refine Calls.mono (HK.out.1 _) ?_
    rintro e w1 ⟨rfl, hb1⟩
    have HB : Hid _ := hb1
    clear hb1
    go_wp2_with fail
    go_ret
    exact ⟨rfl, HB.out⟩
  have d1 : decide ((200 : Int) < (s.size : Int)) = false := by simp; omega
  have d2 : decide ((200 : Int) < (p.size : Int)) = false := by simp; omega
  have d3 : decide ((200 : Int) < (q.size : Int)) = false := by simp; omega
  obtain ⟨M, em, hM, em0, em2, q1⟩ := parse_any 1 s (by omega)
  obtain ⟨A, ea, hA, ea0, ea2, q2⟩ := span_any p (by omega)
  obtain ⟨B, eb, hB, eb0, eb2, q3⟩ := span_any q (by omega)
  have HP : Hid _ := And.intro q1 (And.intro q2 q3)
  clear q1 q2 q3 hm c1 c2 c3
  by_cases h1 : ea = 0
  case neg =>
    have k1 : (ea != 0) = true := by simpa using h1
    clear hA hB hM
    go_enter Try.func5, Try.ntmps5
    go_wp2_with fail
    refine Calls.mono (HK.out.1 _) ?_
    rintro e w1 ⟨rfl, hb1⟩
    have HB : Hid _ := hb1
    clear hb1
    go_wp2_with fail
    refine Calls.mono (HP.out.1 _) ?_
    rintro e w2 ⟨rfl, hb2⟩
    go_upto_region 6 with fail
    obtain ⟨V0, hV0⟩ : ∃ V, w2.alloc (.cells (moC M) 24) = V := ⟨_, rfl⟩
    rw [hV0]
    have hbV : Below w2.heap.size w2 V0 := by rw [← hV0]; exact (Below.refl _ _).alloc (Nat.le_refl _) _
    have x0 : V0.heap[w2.heap.size]? = some (.cells (moC M) 24 (0, 0)) := by rw [← hV0]; exact nw_heap _ _
    clear hV0
    have hstep : Below w1.heap.size w1 V0 := bl_step hb2 hbV
    have HB : Hid (Below w.heap.size w V0) := HB.out.trans (hstep.mono HB.out.size)
    clear hstep hbV
    clear hb2
    go_wp2_with fail
    refine Calls.mono (HP.out.2.1 _) ?_
    rintro e w3 ⟨rfl, hb3⟩
    go_upto_region 7 with fail
    obtain ⟨V1, hV1⟩ : ∃ V, w3.alloc (.cells (spC A) 32) = V := ⟨_, rfl⟩
    rw [hV1]
    have hbV : Below w3.heap.size w3 V1 := by rw [← hV1]; exact (Below.refl _ _).alloc (Nat.le_refl _) _
    have x1 : V1.heap[w3.heap.size]? = some (.cells (spC A) 32 (0, 0)) := by rw [← hV1]; exact nw_heap _ _
    clear hV1
    have hstep : Below V0.heap.size V0 V1 := bl_step hb3 hbV
    replace x0 := (hstep.block _ (lt_of x0)).trans x0
    have HB : Hid (Below w.heap.size w V1) := HB.out.trans (hstep.mono HB.out.size)
    clear hstep hbV
    clear hb3
    go_wp2_with fail
    refine Calls.mono (HP.out.2.2 _) ?_
    rintro e w4 ⟨rfl, hb4⟩
    go_upto_region 8 with fail
    obtain ⟨V2, hV2⟩ : ∃ V, w4.alloc (.cells (spC B) 32) = V := ⟨_, rfl⟩
    rw [hV2]
    have hbV : Below w4.heap.size w4 V2 := by rw [← hV2]; exact (Below.refl _ _).alloc (Nat.le_refl _) _
    have x2 : V2.heap[w4.heap.size]? = some (.cells (spC B) 32 (0, 0)) := by rw [← hV2]; exact nw_heap _ _
    clear hV2
    have hstep : Below V1.heap.size V1 V2 := bl_step hb4 hbV
    replace x0 := (hstep.block _ (lt_of x0)).trans x0
    replace x1 := (hstep.block _ (lt_of x1)).trans x1
    have HB : Hid (Below w.heap.size w V2) := HB.out.trans (hstep.mono HB.out.size)
    clear hstep hbV
    clear hb4
    clear x0 x1 x2
    go_wp2_with fail
    go_ret
    exact ⟨rfl, HB.out⟩
  by_cases h2 : eb = 0
  case neg =>
    have k2 : (eb != 0) = true := by simpa using h2
    subst h1
    clear hA hB hM
    go_enter Try.func5, Try.ntmps5
    go_wp2_with fail
    refine Calls.mono (HK.out.1 _) ?_
    rintro e w1 ⟨rfl, hb1⟩
    have HB : Hid _ := hb1
    clear hb1
    go_wp2_with fail
    refine Calls.mono (HP.out.1 _) ?_
    rintro e w2 ⟨rfl, hb2⟩
    go_upto_region 6 with fail
    obtain ⟨V0, hV0⟩ : ∃ V, w2.alloc (.cells (moC M) 24) = V := ⟨_, rfl⟩
    rw [hV0]
    have hbV : Below w2.heap.size w2 V0 := by rw [← hV0]; exact (Below.refl _ _).alloc (Nat.le_refl _) _
    have x0 : V0.heap[w2.heap.size]? = some (.cells (moC M) 24 (0, 0)) := by rw [← hV0]; exact nw_heap _ _
    clear hV0
    have hstep : Below w1.heap.size w1 V0 := bl_step hb2 hbV
    have HB : Hid (Below w.heap.size w V0) := HB.out.trans (hstep.mono HB.out.size)
    clear hstep hbV
    clear hb2
    go_wp2_with fail
    refine Calls.mono (HP.out.2.1 _) ?_
    rintro e w3 ⟨rfl, hb3⟩
    go_upto_region 7 with fail
    obtain ⟨V1, hV1⟩ : ∃ V, w3.alloc (.cells (spC A) 32) = V := ⟨_, rfl⟩
    rw [hV1]
    have hbV : Below w3.heap.size w3 V1 := by rw [← hV1]; exact (Below.refl _ _).alloc (Nat.le_refl _) _
    have x1 : V1.heap[w3.heap.size]? = some (.cells (spC A) 32 (0, 0)) := by rw [← hV1]; exact nw_heap _ _
    clear hV1
    have hstep : Below V0.heap.size V0 V1 := bl_step hb3 hbV
    replace x0 := (hstep.block _ (lt_of x0)).trans x0
    have HB : Hid (Below w.heap.size w V1) := HB.out.trans (hstep.mono HB.out.size)
    clear hstep hbV
    clear hb3
    go_wp2_with fail
    refine Calls.mono (HP.out.2.2 _) ?_
    rintro e w4 ⟨rfl, hb4⟩
    go_upto_region 8 with fail
    obtain ⟨V2, hV2⟩ : ∃ V, w4.alloc (.cells (spC B) 32) = V := ⟨_, rfl⟩
    rw [hV2]
    have hbV : Below w4.heap.size w4 V2 := by rw [← hV2]; exact (Below.refl _ _).alloc (Nat.le_refl _) _
    have x2 : V2.heap[w4.heap.size]? = some (.cells (spC B) 32 (0, 0)) := by rw [← hV2]; exact nw_heap _ _
    clear hV2
    have hstep : Below V1.heap.size V1 V2 := bl_step hb4 hbV
    replace x0 := (hstep.block _ (lt_of x0)).trans x0
    replace x1 := (hstep.block _ (lt_of x1)).trans x1
    have HB : Hid (Below w.heap.size w V2) := HB.out.trans (hstep.mono HB.out.size)
    clear hstep hbV
    clear hb4
    clear x0 x1 x2
    go_wp2_with fail
    go_ret
    exact ⟨rfl, HB.out⟩
  subst h1 h2
  have tA := hA rfl
  have tB := hB rfl
  have q4 := fun W : World => cmpSpan_p A B W tA tB
  have q5 := fun W : World => cmpSpan_p B A W tB tA
  have q6 := fun W : World => cmpSpan_r A B W tA tB
  have q7 := fun W : World => cmpSpan_p A A W tA tA
  have q8 := fun (h : em = 0) (W : World) => add_p M A W (hM h).l.b tA.b
  have q9 := fun (h : em = 0) (W : World) => add_r M A W (hM h).l.b tA.b
  rw [cmpP_self] at q7
  have hin := cmpP_in A B
  have hturn := cmpP_turn A B
  generalize cmpP A B = X at *
  generalize cmpP B A = Y at *
  generalize addM M A = RR at *
  have HC : Hid _ := And.intro q4 (And.intro q5 (And.intro q6 (And.intro q7 (And.intro q8 q9))))
  clear q4 q5 q6 q7 q8 q9 tA tB hA hB hM ea0 ea2 eb0 eb2
  obtain ⟨hin0, hin1⟩ := hin
  have n1 : (X != X) = false := by simp
  have HYT : Hid _ := hturn
  clear hturn
  by_cases h3 : em = 0
  · have HD : Hid _ := And.intro (HC.out.2.2.2.2.1 h3) (HC.out.2.2.2.2.2 h3)
    subst h3
    by_cases hX : X = 2
    · have hY : Y = 2 := by rw [HYT.out, if_pos hX]
      subst hX hY
      clear n1 HYT
      go_enter Try.func5, Try.ntmps5
      go_wp2_with fail
      refine Calls.mono (HK.out.1 _) ?_
      rintro e w1 ⟨rfl, hb1⟩
      have HB : Hid _ := hb1
      clear hb1
      go_wp2_with fail
      refine Calls.mono (HP.out.1 _) ?_
      rintro e w2 ⟨rfl, hb2⟩
      go_upto_region 6 with fail
      obtain ⟨V0, hV0⟩ : ∃ V, w2.alloc (.cells (moC M) 24) = V := ⟨_, rfl⟩
      rw [hV0]
      have hbV : Below w2.heap.size w2 V0 := by rw [← hV0]; exact (Below.refl _ _).alloc (Nat.le_refl _) _
      have x0 : V0.heap[w2.heap.size]? = some (.cells (moC M) 24 (0, 0)) := by rw [← hV0]; exact nw_heap _ _
      clear hV0
      have hstep : Below w1.heap.size w1 V0 := bl_step hb2 hbV
      have HB : Hid (Below w.heap.size w V0) := HB.out.trans (hstep.mono HB.out.size)
      clear hstep hbV
      clear hb2
      go_wp2_with fail
      refine Calls.mono (HP.out.2.1 _) ?_
      rintro e w3 ⟨rfl, hb3⟩
      go_upto_region 7 with fail
      obtain ⟨V1, hV1⟩ : ∃ V, w3.alloc (.cells (spC A) 32) = V := ⟨_, rfl⟩
      rw [hV1]
      have hbV : Below w3.heap.size w3 V1 := by rw [← hV1]; exact (Below.refl _ _).alloc (Nat.le_refl _) _
      have x1 : V1.heap[w3.heap.size]? = some (.cells (spC A) 32 (0, 0)) := by rw [← hV1]; exact nw_heap _ _
      clear hV1
      have hstep : Below V0.heap.size V0 V1 := bl_step hb3 hbV
      replace x0 := (hstep.block _ (lt_of x0)).trans x0
      have HB : Hid (Below w.heap.size w V1) := HB.out.trans (hstep.mono HB.out.size)
      clear hstep hbV
      clear hb3
      go_wp2_with fail
      refine Calls.mono (HP.out.2.2 _) ?_
      rintro e w4 ⟨rfl, hb4⟩
      go_upto_region 8 with fail
      obtain ⟨V2, hV2⟩ : ∃ V, w4.alloc (.cells (spC B) 32) = V := ⟨_, rfl⟩
      rw [hV2]
      have hbV : Below w4.heap.size w4 V2 := by rw [← hV2]; exact (Below.refl _ _).alloc (Nat.le_refl _) _
      have x2 : V2.heap[w4.heap.size]? = some (.cells (spC B) 32 (0, 0)) := by rw [← hV2]; exact nw_heap _ _
      clear hV2
      have hstep : Below V1.heap.size V1 V2 := bl_step hb4 hbV
      replace x0 := (hstep.block _ (lt_of x0)).trans x0
      replace x1 := (hstep.block _ (lt_of x1)).trans x1
      have HB : Hid (Below w.heap.size w V2) := HB.out.trans (hstep.mono HB.out.size)
      clear hstep hbV
      clear hb4
      go_upto_region 10 with fail
      obtain ⟨a0', a1', a2'⟩ := blk3 x1
      obtain ⟨b0', b1', b2'⟩ := blk3 x2
      go_wp2_with fail
      refine Calls.mono (HC.out.1 _) ?_
      rintro e w5 ⟨rfl, hb5⟩
      clear a0' a1' a2'
      clear b0' b1' b2'
      replace x0 := (hb5.block _ (lt_of x0)).trans x0
      replace x1 := (hb5.block _ (lt_of x1)).trans x1
      replace x2 := (hb5.block _ (lt_of x2)).trans x2
      have HB : Hid (Below w.heap.size w w5) := HB.out.trans (hb5.mono HB.out.size)
      clear hb5
      obtain ⟨a0', a1', a2'⟩ := blk3 x2
      obtain ⟨b0', b1', b2'⟩ := blk3 x1
      go_wp2_with fail
      refine Calls.mono (HC.out.2.1 _) ?_
      rintro e w6 ⟨rfl, hb6⟩
      clear a0' a1' a2'
      clear b0' b1' b2'
      replace x0 := (hb6.block _ (lt_of x0)).trans x0
      replace x1 := (hb6.block _ (lt_of x1)).trans x1
      replace x2 := (hb6.block _ (lt_of x2)).trans x2
      have HB : Hid (Below w.heap.size w w6) := HB.out.trans (hb6.mono HB.out.size)
      clear hb6
      obtain ⟨a0', a1', a2'⟩ := blk3 x1
      obtain ⟨b0', b1', b2'⟩ := blk3 x2
      go_wp2_with fail
      refine Calls.mono (HC.out.2.2.1 _) ?_
      rintro e w7 ⟨rfl, hb7⟩
      clear a0' a1' a2'
      clear b0' b1' b2'
      replace x0 := (hb7.block _ (lt_of x0)).trans x0
      replace x1 := (hb7.block _ (lt_of x1)).trans x1
      replace x2 := (hb7.block _ (lt_of x2)).trans x2
      have HB : Hid (Below w.heap.size w w7) := HB.out.trans (hb7.mono HB.out.size)
      clear hb7
      obtain ⟨a0', a1', a2'⟩ := blk3 x1
      go_wp2_with fail
      refine Calls.mono (HC.out.2.2.2.1 _) ?_
      rintro e w8 ⟨rfl, hb8⟩
      clear a0' a1' a2'
      replace x0 := (hb8.block _ (lt_of x0)).trans x0
      replace x1 := (hb8.block _ (lt_of x1)).trans x1
      replace x2 := (hb8.block _ (lt_of x2)).trans x2
      have HB : Hid (Below w.heap.size w w8) := HB.out.trans (hb8.mono HB.out.size)
      clear hb8
      go_upto_region 16 with fail
      have hkp : ∀ W, Below w8.heap.size w8 W → (W.cell? ⟨w2.heap.size, 0, none⟩ = some (.int .i64 M.k) ∧ W.cell? ⟨w2.heap.size, 1, none⟩ = some (.int .i64 M.y) ∧ W.cell? ⟨w2.heap.size, 2, none⟩ = some (.int .i64 M.m) ∧ W.cell? ⟨w2.heap.size, 3, none⟩ = some (.int .i64 M.d) ∧ W.cell? ⟨w2.heap.size, 4, none⟩ = some (.int .i64 M.s) ∧ W.cell? ⟨w2.heap.size, 5, none⟩ = some (.int .i64 M.n) ∧ W.cell? ⟨w2.heap.size, 6, none⟩ = some (.bool M.hz) ∧ W.cell? ⟨w2.heap.size, 7, none⟩ = some (.int .i64 M.z) ∧ W.cell? ⟨w3.heap.size, 0, none⟩ = some (.int .i64 A.o) ∧ W.cell? ⟨w3.heap.size, 1, none⟩ = some (.int .i64 A.s) ∧ W.cell? ⟨w3.heap.size, 2, none⟩ = some (.int .i64 A.n)) := fun W hW => by
        obtain ⟨⟨g0, g1, g2, g3, g4, g5, g6, g7⟩, _⟩ := blk8 ((hW.block _ (lt_of x0)).trans x0)
        obtain ⟨h0, h1, h2⟩ := blk3 ((hW.block _ (lt_of x1)).trans x1)
        exact ⟨g0, g1, g2, g3, g4, g5, g6, g7, h0, h1, h2⟩
      obtain ⟨g0, g1, g2, g3, g4, g5, g6, g7, h0, h1, h2⟩ := hkp w8.drew (below_drewN 1)
      have HW : Hid (Below w8.heap.size w8 w8.drew) := below_drewN 1
      have HKP : Hid _ := hkp
      clear hkp x0 x1 x2
      go_region_held3 (fun W => W.cell? ⟨w2.heap.size, 0, none⟩ = some (.int .i64 M.k) ∧ W.cell? ⟨w2.heap.size, 1, none⟩ = some (.int .i64 M.y) ∧ W.cell? ⟨w2.heap.size, 2, none⟩ = some (.int .i64 M.m) ∧ W.cell? ⟨w2.heap.size, 3, none⟩ = some (.int .i64 M.d) ∧ W.cell? ⟨w2.heap.size, 4, none⟩ = some (.int .i64 M.s) ∧ W.cell? ⟨w2.heap.size, 5, none⟩ = some (.int .i64 M.n) ∧ W.cell? ⟨w2.heap.size, 6, none⟩ = some (.bool M.hz) ∧ W.cell? ⟨w2.heap.size, 7, none⟩ = some (.int .i64 M.z) ∧ W.cell? ⟨w3.heap.size, 0, none⟩ = some (.int .i64 A.o) ∧ W.cell? ⟨w3.heap.size, 1, none⟩ = some (.int .i64 A.s) ∧ W.cell? ⟨w3.heap.size, 2, none⟩ = some (.int .i64 A.n)) (first | exact ⟨g0, g1, g2, g3, g4, g5, g6, g7, h0, h1, h2⟩ | fail) (first
        | (go_at_call 18; (with_reducible refine Calls.mono (HD.out.1 _) ?_); rintro e w9 ⟨rfl, hb9⟩; have hbb := HW.out.trans (hb9.mono HW.out.size); clear HW g0 g1 g2 g3 g4 g5 g6 g7 h0 h1 h2; obtain ⟨g0, g1, g2, g3, g4, g5, g6, g7, h0, h1, h2⟩ := HKP.out _ hbb; have HW : Hid _ := hbb; clear hbb hb9)
        | (go_at_call 19; (with_reducible refine Calls.mono (HD.out.2 _) ?_); rintro e w9 ⟨rfl, hb9⟩; have hbb := HW.out.trans (hb9.mono HW.out.size); clear HW g0 g1 g2 g3 g4 g5 g6 g7 h0 h1 h2; obtain ⟨g0, g1, g2, g3, g4, g5, g6, g7, h0, h1, h2⟩ := HKP.out _ hbb; have HW : Hid _ := hbb; clear hbb hb9)
        | fail)
      all_goals
        go_wp2_with fail
        go_ret
        exact ⟨rfl, HB.out.trans (HW.out.mono HB.out.size)⟩
    · have hY : Y = -X := by rw [HYT.out, if_neg hX]
      have hr : -1 ≤ X ∧ X ≤ 1 := by omega
      obtain ⟨hr0, hr1⟩ := hr
      have k1 : (X == 2) = false := by simpa using hX
      have k2 : (X != 2) = true := by simpa using hX
      have k3 : (-X != -X) = false := by simp
      clear HYT hin0 hin1
      subst hY
      clear hX
      go_enter Try.func5, Try.ntmps5
      go_wp2_with fail
      refine Calls.mono (HK.out.1 _) ?_
      rintro e w1 ⟨rfl, hb1⟩
      have HB : Hid _ := hb1
      clear hb1
      go_wp2_with fail
      refine Calls.mono (HP.out.1 _) ?_
      rintro e w2 ⟨rfl, hb2⟩
      go_upto_region 6 with fail
      obtain ⟨V0, hV0⟩ : ∃ V, w2.alloc (.cells (moC M) 24) = V := ⟨_, rfl⟩
      rw [hV0]
      have hbV : Below w2.heap.size w2 V0 := by rw [← hV0]; exact (Below.refl _ _).alloc (Nat.le_refl _) _
      have x0 : V0.heap[w2.heap.size]? = some (.cells (moC M) 24 (0, 0)) := by rw [← hV0]; exact nw_heap _ _
      clear hV0
      have hstep : Below w1.heap.size w1 V0 := bl_step hb2 hbV
      have HB : Hid (Below w.heap.size w V0) := HB.out.trans (hstep.mono HB.out.size)
      clear hstep hbV
      clear hb2
      go_wp2_with fail
      refine Calls.mono (HP.out.2.1 _) ?_
      rintro e w3 ⟨rfl, hb3⟩
      go_upto_region 7 with fail
      obtain ⟨V1, hV1⟩ : ∃ V, w3.alloc (.cells (spC A) 32) = V := ⟨_, rfl⟩
      rw [hV1]
      have hbV : Below w3.heap.size w3 V1 := by rw [← hV1]; exact (Below.refl _ _).alloc (Nat.le_refl _) _
      have x1 : V1.heap[w3.heap.size]? = some (.cells (spC A) 32 (0, 0)) := by rw [← hV1]; exact nw_heap _ _
      clear hV1
      have hstep : Below V0.heap.size V0 V1 := bl_step hb3 hbV
      replace x0 := (hstep.block _ (lt_of x0)).trans x0
      have HB : Hid (Below w.heap.size w V1) := HB.out.trans (hstep.mono HB.out.size)
      clear hstep hbV
      clear hb3
      go_wp2_with fail
      refine Calls.mono (HP.out.2.2 _) ?_
      rintro e w4 ⟨rfl, hb4⟩
      go_upto_region 8 with fail
      obtain ⟨V2, hV2⟩ : ∃ V, w4.alloc (.cells (spC B) 32) = V := ⟨_, rfl⟩
      rw [hV2]
      have hbV : Below w4.heap.size w4 V2 := by rw [← hV2]; exact (Below.refl _ _).alloc (Nat.le_refl _) _
      have x2 : V2.heap[w4.heap.size]? = some (.cells (spC B) 32 (0, 0)) := by rw [← hV2]; exact nw_heap _ _
      clear hV2
      have hstep : Below V1.heap.size V1 V2 := bl_step hb4 hbV
      replace x0 := (hstep.block _ (lt_of x0)).trans x0
      replace x1 := (hstep.block _ (lt_of x1)).trans x1
      have HB : Hid (Below w.heap.size w V2) := HB.out.trans (hstep.mono HB.out.size)
      clear hstep hbV
      clear hb4
      go_upto_region 10 with fail
      obtain ⟨a0', a1', a2'⟩ := blk3 x1
      obtain ⟨b0', b1', b2'⟩ := blk3 x2
      go_wp2_with fail
      refine Calls.mono (HC.out.1 _) ?_
      rintro e w5 ⟨rfl, hb5⟩
      clear a0' a1' a2'
      clear b0' b1' b2'
      replace x0 := (hb5.block _ (lt_of x0)).trans x0
      replace x1 := (hb5.block _ (lt_of x1)).trans x1
      replace x2 := (hb5.block _ (lt_of x2)).trans x2
      have HB : Hid (Below w.heap.size w w5) := HB.out.trans (hb5.mono HB.out.size)
      clear hb5
      obtain ⟨a0', a1', a2'⟩ := blk3 x2
      obtain ⟨b0', b1', b2'⟩ := blk3 x1
      go_wp2_with fail
      refine Calls.mono (HC.out.2.1 _) ?_
      rintro e w6 ⟨rfl, hb6⟩
      clear a0' a1' a2'
      clear b0' b1' b2'
      replace x0 := (hb6.block _ (lt_of x0)).trans x0
      replace x1 := (hb6.block _ (lt_of x1)).trans x1
      replace x2 := (hb6.block _ (lt_of x2)).trans x2
      have HB : Hid (Below w.heap.size w w6) := HB.out.trans (hb6.mono HB.out.size)
      clear hb6
      obtain ⟨a0', a1', a2'⟩ := blk3 x1
      obtain ⟨b0', b1', b2'⟩ := blk3 x2
      go_wp2_with fail
      refine Calls.mono (HC.out.2.2.1 _) ?_
      rintro e w7 ⟨rfl, hb7⟩
      clear a0' a1' a2'
      clear b0' b1' b2'
      replace x0 := (hb7.block _ (lt_of x0)).trans x0
      replace x1 := (hb7.block _ (lt_of x1)).trans x1
      replace x2 := (hb7.block _ (lt_of x2)).trans x2
      have HB : Hid (Below w.heap.size w w7) := HB.out.trans (hb7.mono HB.out.size)
      clear hb7
      obtain ⟨a0', a1', a2'⟩ := blk3 x1
      go_wp2_with fail
      refine Calls.mono (HC.out.2.2.2.1 _) ?_
      rintro e w8 ⟨rfl, hb8⟩
      clear a0' a1' a2'
      replace x0 := (hb8.block _ (lt_of x0)).trans x0
      replace x1 := (hb8.block _ (lt_of x1)).trans x1
      replace x2 := (hb8.block _ (lt_of x2)).trans x2
      have HB : Hid (Below w.heap.size w w8) := HB.out.trans (hb8.mono HB.out.size)
      clear hb8
      go_upto_region 16 with fail
      have hkp : ∀ W, Below w8.heap.size w8 W → (W.cell? ⟨w2.heap.size, 0, none⟩ = some (.int .i64 M.k) ∧ W.cell? ⟨w2.heap.size, 1, none⟩ = some (.int .i64 M.y) ∧ W.cell? ⟨w2.heap.size, 2, none⟩ = some (.int .i64 M.m) ∧ W.cell? ⟨w2.heap.size, 3, none⟩ = some (.int .i64 M.d) ∧ W.cell? ⟨w2.heap.size, 4, none⟩ = some (.int .i64 M.s) ∧ W.cell? ⟨w2.heap.size, 5, none⟩ = some (.int .i64 M.n) ∧ W.cell? ⟨w2.heap.size, 6, none⟩ = some (.bool M.hz) ∧ W.cell? ⟨w2.heap.size, 7, none⟩ = some (.int .i64 M.z) ∧ W.cell? ⟨w3.heap.size, 0, none⟩ = some (.int .i64 A.o) ∧ W.cell? ⟨w3.heap.size, 1, none⟩ = some (.int .i64 A.s) ∧ W.cell? ⟨w3.heap.size, 2, none⟩ = some (.int .i64 A.n)) := fun W hW => by
        obtain ⟨⟨g0, g1, g2, g3, g4, g5, g6, g7⟩, _⟩ := blk8 ((hW.block _ (lt_of x0)).trans x0)
        obtain ⟨h0, h1, h2⟩ := blk3 ((hW.block _ (lt_of x1)).trans x1)
        exact ⟨g0, g1, g2, g3, g4, g5, g6, g7, h0, h1, h2⟩
      obtain ⟨g0, g1, g2, g3, g4, g5, g6, g7, h0, h1, h2⟩ := hkp w8.drew (below_drewN 1)
      have HW : Hid (Below w8.heap.size w8 w8.drew) := below_drewN 1
      have HKP : Hid _ := hkp
      clear hkp x0 x1 x2
      go_region_held3 (fun W => W.cell? ⟨w2.heap.size, 0, none⟩ = some (.int .i64 M.k) ∧ W.cell? ⟨w2.heap.size, 1, none⟩ = some (.int .i64 M.y) ∧ W.cell? ⟨w2.heap.size, 2, none⟩ = some (.int .i64 M.m) ∧ W.cell? ⟨w2.heap.size, 3, none⟩ = some (.int .i64 M.d) ∧ W.cell? ⟨w2.heap.size, 4, none⟩ = some (.int .i64 M.s) ∧ W.cell? ⟨w2.heap.size, 5, none⟩ = some (.int .i64 M.n) ∧ W.cell? ⟨w2.heap.size, 6, none⟩ = some (.bool M.hz) ∧ W.cell? ⟨w2.heap.size, 7, none⟩ = some (.int .i64 M.z) ∧ W.cell? ⟨w3.heap.size, 0, none⟩ = some (.int .i64 A.o) ∧ W.cell? ⟨w3.heap.size, 1, none⟩ = some (.int .i64 A.s) ∧ W.cell? ⟨w3.heap.size, 2, none⟩ = some (.int .i64 A.n)) (first | exact ⟨g0, g1, g2, g3, g4, g5, g6, g7, h0, h1, h2⟩ | fail) (first
        | (go_at_call 18; (with_reducible refine Calls.mono (HD.out.1 _) ?_); rintro e w9 ⟨rfl, hb9⟩; have hbb := HW.out.trans (hb9.mono HW.out.size); clear HW g0 g1 g2 g3 g4 g5 g6 g7 h0 h1 h2; obtain ⟨g0, g1, g2, g3, g4, g5, g6, g7, h0, h1, h2⟩ := HKP.out _ hbb; have HW : Hid _ := hbb; clear hbb hb9)
        | (go_at_call 19; (with_reducible refine Calls.mono (HD.out.2 _) ?_); rintro e w9 ⟨rfl, hb9⟩; have hbb := HW.out.trans (hb9.mono HW.out.size); clear HW g0 g1 g2 g3 g4 g5 g6 g7 h0 h1 h2; obtain ⟨g0, g1, g2, g3, g4, g5, g6, g7, h0, h1, h2⟩ := HKP.out _ hbb; have HW : Hid _ := hbb; clear hbb hb9)
        | fail)
      all_goals
        go_wp2_with fail
        go_ret
        exact ⟨rfl, HB.out.trans (HW.out.mono HB.out.size)⟩
  · have k4 : (em != 0) = true := by simpa using h3
    by_cases hX : X = 2
    · have hY : Y = 2 := by rw [HYT.out, if_pos hX]
      subst hX hY
      clear n1 HYT
      go_enter Try.func5, Try.ntmps5
      go_wp2_with fail
      refine Calls.mono (HK.out.1 _) ?_
      rintro e w1 ⟨rfl, hb1⟩
      have HB : Hid _ := hb1
      clear hb1
      go_wp2_with fail
      refine Calls.mono (HP.out.1 _) ?_
      rintro e w2 ⟨rfl, hb2⟩
      go_upto_region 6 with fail
      obtain ⟨V0, hV0⟩ : ∃ V, w2.alloc (.cells (moC M) 24) = V := ⟨_, rfl⟩
      rw [hV0]
      have hbV : Below w2.heap.size w2 V0 := by rw [← hV0]; exact (Below.refl _ _).alloc (Nat.le_refl _) _
      have x0 : V0.heap[w2.heap.size]? = some (.cells (moC M) 24 (0, 0)) := by rw [← hV0]; exact nw_heap _ _
      clear hV0
      have hstep : Below w1.heap.size w1 V0 := bl_step hb2 hbV
      have HB : Hid (Below w.heap.size w V0) := HB.out.trans (hstep.mono HB.out.size)
      clear hstep hbV
      clear hb2
      go_wp2_with fail
      refine Calls.mono (HP.out.2.1 _) ?_
      rintro e w3 ⟨rfl, hb3⟩
      go_upto_region 7 with fail
      obtain ⟨V1, hV1⟩ : ∃ V, w3.alloc (.cells (spC A) 32) = V := ⟨_, rfl⟩
      rw [hV1]
      have hbV : Below w3.heap.size w3 V1 := by rw [← hV1]; exact (Below.refl _ _).alloc (Nat.le_refl _) _
      have x1 : V1.heap[w3.heap.size]? = some (.cells (spC A) 32 (0, 0)) := by rw [← hV1]; exact nw_heap _ _
      clear hV1
      have hstep : Below V0.heap.size V0 V1 := bl_step hb3 hbV
      replace x0 := (hstep.block _ (lt_of x0)).trans x0
      have HB : Hid (Below w.heap.size w V1) := HB.out.trans (hstep.mono HB.out.size)
      clear hstep hbV
      clear hb3
      go_wp2_with fail
      refine Calls.mono (HP.out.2.2 _) ?_
      rintro e w4 ⟨rfl, hb4⟩
      go_upto_region 8 with fail
      obtain ⟨V2, hV2⟩ : ∃ V, w4.alloc (.cells (spC B) 32) = V := ⟨_, rfl⟩
      rw [hV2]
      have hbV : Below w4.heap.size w4 V2 := by rw [← hV2]; exact (Below.refl _ _).alloc (Nat.le_refl _) _
      have x2 : V2.heap[w4.heap.size]? = some (.cells (spC B) 32 (0, 0)) := by rw [← hV2]; exact nw_heap _ _
      clear hV2
      have hstep : Below V1.heap.size V1 V2 := bl_step hb4 hbV
      replace x0 := (hstep.block _ (lt_of x0)).trans x0
      replace x1 := (hstep.block _ (lt_of x1)).trans x1
      have HB : Hid (Below w.heap.size w V2) := HB.out.trans (hstep.mono HB.out.size)
      clear hstep hbV
      clear hb4
      go_upto_region 10 with fail
      obtain ⟨a0', a1', a2'⟩ := blk3 x1
      obtain ⟨b0', b1', b2'⟩ := blk3 x2
      go_wp2_with fail
      refine Calls.mono (HC.out.1 _) ?_
      rintro e w5 ⟨rfl, hb5⟩
      clear a0' a1' a2'
      clear b0' b1' b2'
      replace x0 := (hb5.block _ (lt_of x0)).trans x0
      replace x1 := (hb5.block _ (lt_of x1)).trans x1
      replace x2 := (hb5.block _ (lt_of x2)).trans x2
      have HB : Hid (Below w.heap.size w w5) := HB.out.trans (hb5.mono HB.out.size)
      clear hb5
      obtain ⟨a0', a1', a2'⟩ := blk3 x2
      obtain ⟨b0', b1', b2'⟩ := blk3 x1
      go_wp2_with fail
      refine Calls.mono (HC.out.2.1 _) ?_
      rintro e w6 ⟨rfl, hb6⟩
      clear a0' a1' a2'
      clear b0' b1' b2'
      replace x0 := (hb6.block _ (lt_of x0)).trans x0
      replace x1 := (hb6.block _ (lt_of x1)).trans x1
      replace x2 := (hb6.block _ (lt_of x2)).trans x2
      have HB : Hid (Below w.heap.size w w6) := HB.out.trans (hb6.mono HB.out.size)
      clear hb6
      obtain ⟨a0', a1', a2'⟩ := blk3 x1
      obtain ⟨b0', b1', b2'⟩ := blk3 x2
      go_wp2_with fail
      refine Calls.mono (HC.out.2.2.1 _) ?_
      rintro e w7 ⟨rfl, hb7⟩
      clear a0' a1' a2'
      clear b0' b1' b2'
      replace x0 := (hb7.block _ (lt_of x0)).trans x0
      replace x1 := (hb7.block _ (lt_of x1)).trans x1
      replace x2 := (hb7.block _ (lt_of x2)).trans x2
      have HB : Hid (Below w.heap.size w w7) := HB.out.trans (hb7.mono HB.out.size)
      clear hb7
      obtain ⟨a0', a1', a2'⟩ := blk3 x1
      go_wp2_with fail
      refine Calls.mono (HC.out.2.2.2.1 _) ?_
      rintro e w8 ⟨rfl, hb8⟩
      clear a0' a1' a2'
      replace x0 := (hb8.block _ (lt_of x0)).trans x0
      replace x1 := (hb8.block _ (lt_of x1)).trans x1
      replace x2 := (hb8.block _ (lt_of x2)).trans x2
      have HB : Hid (Below w.heap.size w w8) := HB.out.trans (hb8.mono HB.out.size)
      clear hb8
      clear x0 x1 x2
      go_wp2_with fail
      go_ret
      exact ⟨rfl, HB.out⟩
    · have hY : Y = -X := by rw [HYT.out, if_neg hX]
      have hr : -1 ≤ X ∧ X ≤ 1 := by omega
      obtain ⟨hr0, hr1⟩ := hr
      have k1 : (X == 2) = false := by simpa using hX
      have k2 : (X != 2) = true := by simpa using hX
      have k3 : (-X != -X) = false := by simp
      clear HYT hin0 hin1
      subst hY
      clear hX
      go_enter Try.func5, Try.ntmps5
      go_wp2_with fail
      refine Calls.mono (HK.out.1 _) ?_
      rintro e w1 ⟨rfl, hb1⟩
      have HB : Hid _ := hb1
      clear hb1
      go_wp2_with fail
      refine Calls.mono (HP.out.1 _) ?_
      rintro e w2 ⟨rfl, hb2⟩
      go_upto_region 6 with fail
      obtain ⟨V0, hV0⟩ : ∃ V, w2.alloc (.cells (moC M) 24) = V := ⟨_, rfl⟩
      rw [hV0]
      have hbV : Below w2.heap.size w2 V0 := by rw [← hV0]; exact (Below.refl _ _).alloc (Nat.le_refl _) _
      have x0 : V0.heap[w2.heap.size]? = some (.cells (moC M) 24 (0, 0)) := by rw [← hV0]; exact nw_heap _ _
      clear hV0
      have hstep : Below w1.heap.size w1 V0 := bl_step hb2 hbV
      have HB : Hid (Below w.heap.size w V0) := HB.out.trans (hstep.mono HB.out.size)
      clear hstep hbV
      clear hb2
      go_wp2_with fail
      refine Calls.mono (HP.out.2.1 _) ?_
      rintro e w3 ⟨rfl, hb3⟩
      go_upto_region 7 with fail
      obtain ⟨V1, hV1⟩ : ∃ V, w3.alloc (.cells (spC A) 32) = V := ⟨_, rfl⟩
      rw [hV1]
      have hbV : Below w3.heap.size w3 V1 := by rw [← hV1]; exact (Below.refl _ _).alloc (Nat.le_refl _) _
      have x1 : V1.heap[w3.heap.size]? = some (.cells (spC A) 32 (0, 0)) := by rw [← hV1]; exact nw_heap _ _
      clear hV1
      have hstep : Below V0.heap.size V0 V1 := bl_step hb3 hbV
      replace x0 := (hstep.block _ (lt_of x0)).trans x0
      have HB : Hid (Below w.heap.size w V1) := HB.out.trans (hstep.mono HB.out.size)
      clear hstep hbV
      clear hb3
      go_wp2_with fail
      refine Calls.mono (HP.out.2.2 _) ?_
      rintro e w4 ⟨rfl, hb4⟩
      go_upto_region 8 with fail
      obtain ⟨V2, hV2⟩ : ∃ V, w4.alloc (.cells (spC B) 32) = V := ⟨_, rfl⟩
      rw [hV2]
      have hbV : Below w4.heap.size w4 V2 := by rw [← hV2]; exact (Below.refl _ _).alloc (Nat.le_refl _) _
      have x2 : V2.heap[w4.heap.size]? = some (.cells (spC B) 32 (0, 0)) := by rw [← hV2]; exact nw_heap _ _
      clear hV2
      have hstep : Below V1.heap.size V1 V2 := bl_step hb4 hbV
      replace x0 := (hstep.block _ (lt_of x0)).trans x0
      replace x1 := (hstep.block _ (lt_of x1)).trans x1
      have HB : Hid (Below w.heap.size w V2) := HB.out.trans (hstep.mono HB.out.size)
      clear hstep hbV
      clear hb4
      go_upto_region 10 with fail
      obtain ⟨a0', a1', a2'⟩ := blk3 x1
      obtain ⟨b0', b1', b2'⟩ := blk3 x2
      go_wp2_with fail
      refine Calls.mono (HC.out.1 _) ?_
      rintro e w5 ⟨rfl, hb5⟩
      clear a0' a1' a2'
      clear b0' b1' b2'
      replace x0 := (hb5.block _ (lt_of x0)).trans x0
      replace x1 := (hb5.block _ (lt_of x1)).trans x1
      replace x2 := (hb5.block _ (lt_of x2)).trans x2
      have HB : Hid (Below w.heap.size w w5) := HB.out.trans (hb5.mono HB.out.size)
      clear hb5
      obtain ⟨a0', a1', a2'⟩ := blk3 x2
      obtain ⟨b0', b1', b2'⟩ := blk3 x1
      go_wp2_with fail
      refine Calls.mono (HC.out.2.1 _) ?_
      rintro e w6 ⟨rfl, hb6⟩
      clear a0' a1' a2'
      clear b0' b1' b2'
      replace x0 := (hb6.block _ (lt_of x0)).trans x0
      replace x1 := (hb6.block _ (lt_of x1)).trans x1
      replace x2 := (hb6.block _ (lt_of x2)).trans x2
      have HB : Hid (Below w.heap.size w w6) := HB.out.trans (hb6.mono HB.out.size)
      clear hb6
      obtain ⟨a0', a1', a2'⟩ := blk3 x1
      obtain ⟨b0', b1', b2'⟩ := blk3 x2
      go_wp2_with fail
      refine Calls.mono (HC.out.2.2.1 _) ?_
      rintro e w7 ⟨rfl, hb7⟩
      clear a0' a1' a2'
      clear b0' b1' b2'
      replace x0 := (hb7.block _ (lt_of x0)).trans x0
      replace x1 := (hb7.block _ (lt_of x1)).trans x1
      replace x2 := (hb7.block _ (lt_of x2)).trans x2
      have HB : Hid (Below w.heap.size w w7) := HB.out.trans (hb7.mono HB.out.size)
      clear hb7
      obtain ⟨a0', a1', a2'⟩ := blk3 x1
      go_wp2_with fail
      refine Calls.mono (HC.out.2.2.2.1 _) ?_
      rintro e w8 ⟨rfl, hb8⟩
      clear a0' a1' a2'
      replace x0 := (hb8.block _ (lt_of x0)).trans x0
      replace x1 := (hb8.block _ (lt_of x1)).trans x1
      replace x2 := (hb8.block _ (lt_of x2)).trans x2
      have HB : Hid (Below w.heap.size w w8) := HB.out.trans (hb8.mono HB.out.size)
      clear hb8
      clear x0 x1 x2
      go_wp2_with fail
      go_ret
      exact ⟨rfl, HB.out⟩
end Go.Proofs.Ytijcbgjlofcdfaa
