/- Rows held against each other. -/
import Derived.Test.YtgidbmiahckleaaRf4
namespace Go.Proofs.Ytgidbmiahckleaa
open Go.RowKit
set_option linter.unusedVariables false

theorem st88 : Try.prog.underlying 88 = some (.struct (Try.prog.fieldsOf 88)) := by kernel_rfl
theorem eq88 (a b c d : ByteArray) (w : World) : (Op.equal 88 (.agg #[.string a, .string b]) (.agg #[.string c, .string d])).run Try.prog w = .ok ((a.toList == c.toList) && (b.toList == d.toList)) w := by
  have h := run_equalIn_agg (P := Try.prog) w 9999 88 #[.string a, .string b] #[.string c, .string d] st88 (by kernel_rfl)
  unfold Op.equal
  refine h.trans ?_
  simp [go_sem, Op.eqFields]
  by_cases h1 : a.toList = c.toList <;> by_cases h2 : b.toList = d.toList <;> simp [h1, h2]
set_option maxRecDepth 100000 in
set_option maxHeartbeats 1600000 in
theorem binds_eq {w : World} {v1 v2 : Value} {b : Bs} (h1 : RowB w v1 b) (h2 : RowB w v2 b) : Calls Try.prog 21 #[v1, v2] w fun e w' => e = .returned (.bool true) ∧ Below w.heap.size w w' := by
  obtain ⟨a1, c1, rfl, l1, m1, k1⟩ := h1
  obtain ⟨a2, c2, rfl, l2, m2, k2⟩ := h2
  unfold maxLen at m1 m2
  have HK : Hid _ := And.intro k1 k2
  clear k1 k2
  have hq := eq88
  go_enter Try.func21, Try.ntmps21
  go_wp2_with fail
  go_loopg [5] b.length (fun m v5 wr => ∃ i : Nat, v5 = .int .i64 i ∧ i + m = b.length ∧ Below w.heap.size w wr)
  case atStart => exact ⟨0, rfl, by omega, Below.refl _ _⟩
  case round =>
    obtain ⟨i, rfl, him, hbw⟩ := hrel
    by_cases hi : i < b.length
    · obtain ⟨m, rfl⟩ : ∃ m, gk = m + 1 := ⟨gk - 1, by omega⟩
      rcases HK.out.1 with he | ⟨g1, o1, rfl, hg1, q1⟩
      · rw [he] at hi; simp at hi
      rcases HK.out.2 with he | ⟨g2, o2, rfl, hg2, q2⟩
      · rw [he] at hi; simp at hi
      obtain ⟨x0, x1⟩ := q1 i hi
      obtain ⟨y0, y1⟩ := q2 i hi
      have p0 := (hbw.cell (p := ⟨g1, o1 + i * 2, none⟩) hg1).trans x0
      have p1 := (hbw.cell (p := ⟨g1, o1 + i * 2 + 1, none⟩) hg1).trans x1
      have r0 := (hbw.cell (p := ⟨g2, o2 + i * 2, none⟩) hg2).trans y0
      have r1 := (hbw.cell (p := ⟨g2, o2 + i * 2 + 1, none⟩) hg2).trans y1
      generalize (b[i]'hi) = B at *
      obtain ⟨B1, B2⟩ := B
      dsimp only at *
      have HB : Hid _ := hbw
      clear hbw x0 x1 y0 y1 q1 q2
      go_wp2_with fail
      go_quiet (fail)
      go_wp2_with fail
      go_roundg m
      case measure => omega
      case rel => exact ⟨i + 1, rfl, by omega, HB.out.trans ((Below.drewN' _).mono HB.out.size)⟩
    · obtain rfl : i = b.length := by omega
      go_wp2_with fail
      go_ret
      exact ⟨rfl, hbw⟩
/-- Attributes of a tag in memory, read alone. -/
def RowA (w : World) (v : Value) (l : List Out) : Prop := ∃ a cap, v = .slice a l.length cap ∧ l.length ≤ cap ∧ cap ≤ maxLen ∧ (l = [] ∨ ∃ g o, a = some ⟨g, o, none⟩ ∧ g < w.heap.size ∧ ∀ i (hi : i < l.length), w.cell? ⟨g, o + i * 4, none⟩ = some (.string (l[i]'hi).1.1) ∧ w.cell? ⟨g, o + i * 4 + 1, none⟩ = some (.string (l[i]'hi).1.2) ∧ w.cell? ⟨g, o + i * 4 + 2, none⟩ = some (.string (l[i]'hi).2.1) ∧ w.cell? ⟨g, o + i * 4 + 3, none⟩ = some (.int .i64 (l[i]'hi).2.2))
theorem st90 : Try.prog.underlying 90 = some (.struct (Try.prog.fieldsOf 90)) := by kernel_rfl
theorem eq90 (a b c : ByteArray) (d : Int) (w : World) : (Op.equal 90 (.agg #[.string a, .string b, .string c, .int .i64 d]) (.agg #[.string a, .string b, .string c, .int .i64 d])).run Try.prog w = .ok true w := by
  have h := run_equalIn_agg (P := Try.prog) w 9999 90 #[.string a, .string b, .string c, .int .i64 d] #[.string a, .string b, .string c, .int .i64 d] st90 (by kernel_rfl)
  unfold Op.equal
  refine h.trans ?_
  simp [go_sem, Op.eqFields]
set_option maxRecDepth 100000 in
set_option maxHeartbeats 1600000 in
theorem same_eq {w : World} {v1 v2 : Value} {l : List Out} (s t : ByteArray) (pl : Int) (h1 : RowA w v1 l) (h2 : RowA w v2 l) : Calls Try.prog 15 #[.agg #[.string s, .string t, v1, .int .i64 pl], .agg #[.string s, .string t, v2, .int .i64 pl]] w fun e w' => e = .returned (.bool true) ∧ Below w.heap.size w w' := by
  obtain ⟨a1, c1, rfl, l1, m1, k1⟩ := h1
  obtain ⟨a2, c2, rfl, l2, m2, k2⟩ := h2
  unfold maxLen at m1 m2
  have HK : Hid _ := And.intro k1 k2
  clear k1 k2
  have hq := eq90
  have hq2 := eq37
  have hb0 : ∀ o o', Below w.heap.size w ((w.alloc o).alloc o') := fun o o' => ((Below.refl _ _).alloc (Nat.le_refl _) o).alloc (by simp) o'
  go_enter Try.func15, Try.ntmps15
  go_wp2_with fail
  have x1 := xa2 w (.cells #[.string s, .string t, .slice a1 l.length c1, .int .i64 pl] 40) (.cells #[.string s, .string t, .slice a2 l.length c2, .int .i64 pl] 46)
  have x2 : ((w.alloc (.cells #[.string s, .string t, .slice a1 l.length c1, .int .i64 pl] 40)).alloc (.cells #[.string s, .string t, .slice a2 l.length c2, .int .i64 pl] 46)).heap[w.heap.size + 1]? = some (.cells #[.string s, .string t, .slice a2 l.length c2, .int .i64 pl] 46 (0, 0)) := by
    have := nw_heap (w.alloc (.cells #[.string s, .string t, .slice a1 l.length c1, .int .i64 pl] 40)) (.cells #[.string s, .string t, .slice a2 l.length c2, .int .i64 pl] 46)
    rwa [sza] at this
  have HX : Hid _ := And.intro x1 (And.intro x2 (hb0 (.cells #[.string s, .string t, .slice a1 l.length c1, .int .i64 pl] 40) (.cells #[.string s, .string t, .slice a2 l.length c2, .int .i64 pl] 46)))
  clear x1 x2 hb0
  generalize ((w.alloc (.cells #[.string s, .string t, .slice a1 l.length c1, .int .i64 pl] 40)).alloc (.cells #[.string s, .string t, .slice a2 l.length c2, .int .i64 pl] 46)) = W0 at *
  go_loopg [5] l.length (fun m v5 wr => ∃ i : Nat, v5 = .int .i64 i ∧ i + m = l.length ∧ Below W0.heap.size W0 wr)
  case atStart => exact ⟨0, rfl, by omega, Below.refl _ _⟩
  case round =>
    obtain ⟨i, rfl, him, hb0w⟩ := hrel
    have u1 := (bl4 ((hb0w.block _ (lt_of HX.out.1)).trans HX.out.1)).1.2.2.1
    have u2 := (bl4 ((hb0w.block _ (lt_of HX.out.2.1)).trans HX.out.2.1)).1.2.2.1
    have hbw := HX.out.2.2.trans (hb0w.mono HX.out.2.2.size)
    by_cases hi : i < l.length
    · obtain ⟨m, rfl⟩ : ∃ m, gk = m + 1 := ⟨gk - 1, by omega⟩
      rcases HK.out.1 with he | ⟨g1, o1, rfl, hg1, q1⟩
      · rw [he] at hi; simp at hi
      rcases HK.out.2 with he | ⟨g2, o2, rfl, hg2, q2⟩
      · rw [he] at hi; simp at hi
      obtain ⟨x0, x1, x2, x3⟩ := q1 i hi
      obtain ⟨y0, y1, y2, y3⟩ := q2 i hi
      have p0 := (hbw.cell (p := ⟨g1, o1 + i * 4, none⟩) hg1).trans x0
      have p1 := (hbw.cell (p := ⟨g1, o1 + i * 4 + 1, none⟩) hg1).trans x1
      have p2 := (hbw.cell (p := ⟨g1, o1 + i * 4 + 2, none⟩) hg1).trans x2
      have p3 := (hbw.cell (p := ⟨g1, o1 + i * 4 + 3, none⟩) hg1).trans x3
      have r0 := (hbw.cell (p := ⟨g2, o2 + i * 4, none⟩) hg2).trans y0
      have r1 := (hbw.cell (p := ⟨g2, o2 + i * 4 + 1, none⟩) hg2).trans y1
      have r2 := (hbw.cell (p := ⟨g2, o2 + i * 4 + 2, none⟩) hg2).trans y2
      have r3 := (hbw.cell (p := ⟨g2, o2 + i * 4 + 3, none⟩) hg2).trans y3
      generalize (l[i]'hi) = B at *
      obtain ⟨⟨B1, B2⟩, B3, B4⟩ := B
      dsimp only at *
      have HB : Hid _ := hb0w
      clear hbw hb0w x0 x1 x2 x3 y0 y1 y2 y3 q1 q2
      go_wp2_with fail
      go_quiet (fail)
      go_wp2_with fail
      go_roundg m
      case measure => omega
      case rel => exact ⟨i + 1, rfl, by omega, HB.out.trans ((Below.drewN' _).mono HB.out.size)⟩
    · obtain rfl : i = l.length := by omega
      have HB : Hid _ := hbw
      clear hbw hb0w
      go_wp2_with fail
      go_ret
      exact ⟨rfl, HB.out⟩
end Go.Proofs.Ytgidbmiahckleaa
