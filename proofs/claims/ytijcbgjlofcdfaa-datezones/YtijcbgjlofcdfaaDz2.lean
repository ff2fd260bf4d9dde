/- Texts that the laws make: a moment's. -/
import Derived.Test.YtijcbgjlofcdfaaDz
namespace Go.Proofs.Ytijcbgjlofcdfaa
open Go.RowKit
set_option linter.unusedVariables false

theorem dec_size {s : ByteArray} {n : Int} {k : Nat} (h : bl s = decB n k) : s.size = k := by rw [← bl_len, h, dec_len]
theorem zt_len (y m d s : Int) : (ztB y m d s).length = 20 := by
  unfold ztB
  simp [dec_len]
theorem parse_zt (s : ByteArray) (w : World) (y m d c : Int) (hs : bl s = ztB y m d c) (y0 : 1000 ≤ y) (y1 : y ≤ 9000) (m0 : 1 ≤ m) (m1 : m ≤ 12) (d0 : 1 ≤ d) (d1 : d ≤ 28) (s0 : 0 ≤ c) (s1 : c ≤ 86399) : Calls Try.prog 10 #[.int .i64 1, .string s] w fun e w' => e = .returned (.tuple #[moV ⟨1, y, m, d, c, 0, true, 0⟩, .int .i64 0]) ∧ Below w.heap.size w w' := by
  have hsz : s.size = 20 := by rw [← bl_len, hs, zt_len]
  have h := parse_k 1 s w (by rw [hsz]; decide) (by omega) (by omega)
  rw [hs, zt_pr y0 y1 m0 m1 d0 d1 s0 s1] at h
  exact h
set_option maxHeartbeats 2000000 in
theorem text_p (y m d c : Int) (w : World) (y0 : 1000 ≤ y) (y1 : y ≤ 9000) (m0 : 1 ≤ m) (m1 : m ≤ 12) (d0 : 1 ≤ d) (d1 : d ≤ 28) (s0 : 0 ≤ c) (s1 : c ≤ 86399) : Calls Try.prog 26 #[moV ⟨1, y, m, d, c, 0, true, 0⟩] w fun e w' => ∃ s : ByteArray, e = .returned (.string s) ∧ (bl s = ztB y m d c ∧ Below w.heap.size w w') := by
  have q1 := fun W : World => decimal_p y 4 W (by omega) (by omega) (by omega)
  have q2 := fun W : World => decimal_p m 2 W (by omega) (by omega) (by omega)
  have q3 := fun W : World => decimal_p d 2 W (by omega) (by omega) (by omega)
  have q4 := fun W : World => decimal_p (c / 3600) 2 W (by omega) (by omega) (by omega)
  have q5 := fun W : World => decimal_p (c / 60 % 60) 2 W (by omega) (by omega) (by omega)
  have q6 := fun W : World => decimal_p (c % 60) 2 W (by omega) (by omega) (by omega)
  have t4 : IntKind.i64.wrap (c.tdiv 3600) = c / 3600 := by rw [Int.tdiv_eq_ediv_of_nonneg s0, IntKind.wrap_i64]; omega
  have t5 : IntKind.i64.wrap (c.tdiv 60) = c / 60 := by rw [Int.tdiv_eq_ediv_of_nonneg s0, IntKind.wrap_i64]; omega
  have t5b : (c / 60).tmod 60 = c / 60 % 60 := by rw [Int.tmod_eq_emod_of_nonneg (by omega)]
  have t6 : c.tmod 60 = c % 60 := by rw [Int.tmod_eq_emod_of_nonneg s0]
  have hx := nw_heap w (.cells (moC ⟨1, y, m, d, c, 0, true, 0⟩) 24)
  have hb0 : Below w.heap.size w (w.alloc (.cells (moC ⟨1, y, m, d, c, 0, true, 0⟩) 24)) := (Below.refl _ _).alloc (Nat.le_refl _) _
  have HC : Hid _ := And.intro q1 (And.intro q2 (And.intro q3 (And.intro q4 (And.intro q5 (And.intro q6 hb0)))))
  clear q1 q2 q3 q4 q5 q6 hb0
  go_enter Try.func26, Try.ntmps26
  go_wp2_with fail
  generalize (w.alloc (.cells (moC ⟨1, y, m, d, c, 0, true, 0⟩) 24)) = U at *
  have hkp : ∀ W, Below U.heap.size U W → (W.cell? ⟨w.heap.size, 1, none⟩ = some (.int .i64 y) ∧ W.cell? ⟨w.heap.size, 2, none⟩ = some (.int .i64 m) ∧ W.cell? ⟨w.heap.size, 3, none⟩ = some (.int .i64 d) ∧ W.cell? ⟨w.heap.size, 4, none⟩ = some (.int .i64 c)) := fun W hW => by
    obtain ⟨⟨_, g1, g2, g3, g4, _⟩, _⟩ := blk8 ((hW.block _ (lt_of hx)).trans hx)
    exact ⟨g1, g2, g3, g4⟩
  obtain ⟨g1, g2, g3, g4⟩ := hkp U.drew (below_drewN 1)
  have HB : Hid (Below U.heap.size U U.drew) := below_drewN 1
  have HKP : Hid _ := And.intro hkp trivial
  clear hkp hx
  go_region_held3 (fun W => W.cell? ⟨w.heap.size, 1, none⟩ = some (.int .i64 y) ∧ W.cell? ⟨w.heap.size, 2, none⟩ = some (.int .i64 m) ∧ W.cell? ⟨w.heap.size, 3, none⟩ = some (.int .i64 d) ∧ W.cell? ⟨w.heap.size, 4, none⟩ = some (.int .i64 c)) (first | exact ⟨g1, g2, g3, g4⟩ | fail) (first
    | (go_at_call 57; (with_reducible refine Calls.mono (HC.out.1 _) ?_); rintro e w1 ⟨a1, rfl, ha, hb1⟩; have hz1 := dec_size ha; have HA1 : Hid _ := ha; have hbb := HB.out.trans (hb1.mono HB.out.size); clear HB g1 g2 g3 g4 ha; obtain ⟨g1, g2, g3, g4⟩ := HKP.out.1 _ hbb; have HB : Hid _ := hbb; clear hbb hb1)
    | (go_at_call 57; (with_reducible refine Calls.mono (HC.out.2.1 _) ?_); rintro e w1 ⟨a2, rfl, ha, hb1⟩; have hz2 := dec_size ha; have HA2 : Hid _ := ha; have hbb := HB.out.trans (hb1.mono HB.out.size); clear HB g1 g2 g3 g4 ha; obtain ⟨g1, g2, g3, g4⟩ := HKP.out.1 _ hbb; have HB : Hid _ := hbb; clear hbb hb1)
    | (go_at_call 57; (with_reducible refine Calls.mono (HC.out.2.2.1 _) ?_); rintro e w1 ⟨a3, rfl, ha, hb1⟩; have hz3 := dec_size ha; have HA3 : Hid _ := ha; have hbb := HB.out.trans (hb1.mono HB.out.size); clear HB g1 g2 g3 g4 ha; obtain ⟨g1, g2, g3, g4⟩ := HKP.out.1 _ hbb; have HB : Hid _ := hbb; clear hbb hb1)
    | (go_at_call 57; (with_reducible refine Calls.mono (HC.out.2.2.2.1 _) ?_); rintro e w1 ⟨a4, rfl, ha, hb1⟩; have hz4 := dec_size ha; have HA4 : Hid _ := ha; have hbb := HB.out.trans (hb1.mono HB.out.size); clear HB g1 g2 g3 g4 ha; obtain ⟨g1, g2, g3, g4⟩ := HKP.out.1 _ hbb; have HB : Hid _ := hbb; clear hbb hb1)
    | (go_at_call 57; (with_reducible refine Calls.mono (HC.out.2.2.2.2.1 _) ?_); rintro e w1 ⟨a5, rfl, ha, hb1⟩; have hz5 := dec_size ha; have HA5 : Hid _ := ha; have hbb := HB.out.trans (hb1.mono HB.out.size); clear HB g1 g2 g3 g4 ha; obtain ⟨g1, g2, g3, g4⟩ := HKP.out.1 _ hbb; have HB : Hid _ := hbb; clear hbb hb1)
    | (go_at_call 57; (with_reducible refine Calls.mono (HC.out.2.2.2.2.2.1 _) ?_); rintro e w1 ⟨a6, rfl, ha, hb1⟩; have hz6 := dec_size ha; have HA6 : Hid _ := ha; have hbb := HB.out.trans (hb1.mono HB.out.size); clear HB g1 g2 g3 g4 ha; obtain ⟨g1, g2, g3, g4⟩ := HKP.out.1 _ hbb; have HB : Hid _ := hbb; clear hbb hb1)
    | fail)
  go_wp2_with fail
  go_ret
  refine ⟨_, rfl, ?_, HC.out.2.2.2.2.2.2.trans (HB.out.mono HC.out.2.2.2.2.2.2.size)⟩
  have c1 : bl ⟨#[45]⟩ = [45] := by decide +kernel
  have c2 : bl ⟨#[84]⟩ = [84] := by decide +kernel
  have c3 : bl ⟨#[58]⟩ = [58] := by decide +kernel
  have c4 : bl ⟨#[90]⟩ = [90] := by decide +kernel
  simp only [bl_app, HA1.out, HA2.out, HA3.out, HA4.out, HA5.out, HA6.out, c1, c2, c3, c4, ztB, List.append_assoc, List.cons_append, List.nil_append]
end Go.Proofs.Ytijcbgjlofcdfaa
