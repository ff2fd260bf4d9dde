/- The program: ahead, nought, Fraction, Whole; the library's Max and Clone at bytes. -/
import Derived.Test.YtgaegajcejpmdaaGreatDoorHDcB0
import Derived.Test.YtgaegajcejpmdaaGreatDoorHDcQ0
namespace Go.Proofs.YtgaegajcejpmdaaGreatDoor.Dc
open Go.RowKit
set_option linter.unusedVariables false

theorem ahead_p {w : World} {v : Value} {l : List Int} (h : BtR w v l) (neg : Bool) (sc : Int) (h0 : 0 ≤ sc) (h1 : sc ≤ 100000) : Calls Tryz.prog 56 #[nmV neg v sc] w fun e w' => e = .returned (.int .i64 ((l.length : Int) - sc)) ∧ Below w.heap.size w w' := by
  obtain ⟨a, cap, rfl, hc1, hc2⟩ := h.form
  unfold maxLen at hc2
  have hb0 : Below w.heap.size w (w.alloc (.cells #[.bool neg, .slice a l.length cap, .int .i64 sc] 34)) := (Below.refl _ _).alloc (Nat.le_refl _) _
  have HB : Hid _ := hb0
  clear hb0
  go_enter Tryz.func56, Tryz.ntmps56
  go_wp2_with fail
  go_ret
  exact ⟨rfl, HB.out⟩
def noS (l : List Int) : Bool := decide (l.length = 1) && (l.head? == some 0)
theorem nought_p {w : World} {v : Value} {l : List Int} (h : BtR w v l) (neg : Bool) (sc : Int) : Calls Tryz.prog 97 #[nmV neg v sc] w fun e w' => e = .returned (.bool (noS l)) ∧ Below w.heap.size w w' := by
  obtain ⟨a, cap, rfl, hc1, hc2, h3, h4⟩ := h
  have hb0 : Below w.heap.size w (w.alloc (.cells #[.bool neg, .slice a l.length cap, .int .i64 sc] 34)) := (Below.refl _ _).alloc (Nat.le_refl _) _
  have hn : noS l = (decide (l.length = 1) && (l.head? == some 0)) := rfl
  generalize noS l = N at *
  by_cases h1 : l.length = 1
  · obtain ⟨d, rfl⟩ := List.length_eq_one_iff.1 h1
    rcases h4 with h4 | ⟨g, o, rfl, h5, h6⟩
    · simp at h4
    have x0 := (hb0.cell (p := ⟨g, o, none⟩) h5).trans (h6 0 (by simp))
    simp only [List.getElem_cons_zero] at x0
    have hbd := h3 d (by simp)
    have hN : N = (d == 0) := by rw [hn]; simp
    have HB : Hid _ := And.intro hb0 hN
    clear hb0 hn h3 h6 hN h1
    simp only [List.length_cons, List.length_nil, Nat.zero_add] at *
    go_enter Tryz.func97, Tryz.ntmps97
    go_wp2_with fail
    go_ret
    exact ⟨by rw [HB.out.2]; rfl, HB.out.1⟩
  · have hN : N = false := by rw [hn]; simp [h1]
    have hg : (((l.length : Nat) : Int) == 1) = false := by simp; omega
    have HB : Hid _ := And.intro hb0 hN
    clear hb0 hn h3 h4 hN h1
    go_enter Tryz.func97, Tryz.ntmps97
    go_wp2_with fail
    go_ret
    exact ⟨by rw [HB.out.2]; rfl, HB.out.1⟩
/-- The greatest byte. -/
def mxS (l : List Int) : Int := l.foldl max 0
theorem mx_fold : ∀ (l : List Int) (a : Int), l.foldl max a ≤ 9 ↔ a ≤ 9 ∧ ∀ d ∈ l, d ≤ 9
  | [], a => by simp
  | d :: l, a => by
    rw [List.foldl_cons, mx_fold l]
    simp only [List.mem_cons, forall_eq_or_imp]
    constructor
    · rintro ⟨q1, q2⟩; exact ⟨by omega, by omega, q2⟩
    · rintro ⟨q1, q2, q3⟩; exact ⟨by omega, q3⟩
theorem mx_nine (l : List Int) : decide (mxS l ≤ 9) = l.all (fun d => decide (d ≤ 9)) := by
  rw [Bool.eq_iff_iff]
  simp only [decide_eq_true_eq, List.all_eq_true]
  unfold mxS
  rw [mx_fold]
  simp
theorem mx_bd : ∀ (l : List Int) (a : Int), 0 ≤ a → a < 256 → (∀ d ∈ l, 0 ≤ d ∧ d < 256) → 0 ≤ l.foldl max a ∧ l.foldl max a < 256
  | [], a, h0, h1, _ => ⟨h0, h1⟩
  | d :: l, a, h0, h1, h => by
    have := h d (by simp)
    rw [List.foldl_cons]
    exact mx_bd l _ (by omega) (by omega) (fun x hx => h x (by simp [hx]))
set_option maxRecDepth 100000 in
set_option maxHeartbeats 1600000 in
theorem max_p {w : World} {v : Value} {l : List Int} (h : BtR w v l) (hn : l ≠ []) : Calls Tryz.prog 96 #[v] w fun e w' => e = .returned (.int .u8 (mxS l)) ∧ Below w.heap.size w w' := by
  obtain ⟨a, cap, rfl, hc1, hc2, h3, h4⟩ := h
  unfold maxLen at hc2
  rcases h4 with h4 | ⟨g, o, rfl, h5, h6⟩
  · exact absurd h4 hn
  have hpos : 0 < l.length := List.length_pos_iff.2 hn
  have x0 := h6 0 hpos
  rw [Nat.add_zero] at x0
  have hb0 := h3 _ (List.getElem_mem hpos)
  have hM : mxS l = (l.drop 1).foldl max (l[0]'hpos) := by
    unfold mxS
    cases l with
    | nil => exact absurd rfl hn
    | cons d l =>
      simp only [List.foldl_cons, List.drop_succ_cons, List.drop_zero, List.getElem_cons_zero]
      simp only [List.getElem_cons_zero] at hb0
      have : max (0 : Int) d = d := by omega
      rw [this]
  generalize mxS l = M at *
  generalize hd0 : (l[0]'hpos) = d0 at *
  have HM : Hid _ := And.intro hM (And.intro h3 h6)
  have hp1 : ¬ (((l.length : Nat) : Int) < 1) := by omega
  clear hM h3 h6 hd0
  go_enter Tryz.func96, Tryz.ntmps96
  go_wp2_with fail
  go_loopg [3, 4] (l.length - 1) (fun m v3 v4 wr => ∃ (i : Nat) (x : Int), v3 = .int .u8 x ∧ v4 = .int .i64 i ∧ i + m = l.length ∧ wr = w ∧ 0 ≤ x ∧ x < 256 ∧ Hid (M = (l.drop i).foldl max x))
  case atStart => exact ⟨1, d0, rfl, rfl, by omega, rfl, hb0.1, hb0.2, HM.out.1⟩
  case round =>
    obtain ⟨i, x, rfl, rfl, him, hwr, hx0, hx1, hf⟩ := hrel
    subst hwr
    by_cases hi : i < l.length
    · obtain ⟨m, rfl⟩ : ∃ m, gk = m + 1 := ⟨gk - 1, by omega⟩
      have y0 := HM.out.2.2 i hi
      have hbd := HM.out.2.1 _ (List.getElem_mem hi)
      have hfd : (l.drop i).foldl max x = (l.drop (i + 1)).foldl max (max x (l[i]'hi)) := by rw [List.drop_eq_getElem_cons hi, List.foldl_cons]
      generalize (l[i]'hi) = d at *
      have hmd : (d ≤ x ∧ max x d = x) ∨ (x < d ∧ max x d = d) := by omega
      rcases hmd with ⟨q1, q2⟩ | ⟨q1, q2⟩
      all_goals
        rw [q2] at hfd
        have HF : Hid _ := And.intro hf hfd
        clear hf hfd q2
        go_wp2_with fail
        go_roundg m
        case measure => omega
        case rel => exact ⟨i + 1, _, rfl, by simp, by omega, rfl, by omega, by omega, by show _ = _; rw [HF.out.1.out, HF.out.2]⟩
    · have hil : i = l.length := by omega
      have hM2 : M = x := by rw [hf.out, hil, List.drop_length]; rfl
      have HF : Hid _ := hM2
      clear hf hM2
      go_wp2_with fail
      go_ret
      exact ⟨by rw [HF.out]; rfl, Below.refl _ _⟩
theorem eq_sn (w : World) (ad : Addr) (n c : Nat) : (binOp BinOp.eql 32 (.slice (some ad) n c) (.slice none 0 0)).run Tryz.prog w = .ok (.bool false) w := by kernel_rfl
set_option maxRecDepth 100000 in
set_option maxHeartbeats 1600000 in
theorem clone_p {w : World} {v : Value} {l : List Int} (h : BtR w v l) (hn : l ≠ []) (hl : l.length ≤ 20000) : Calls Tryz.prog 149 #[v] w fun e w' => ∃ a c, e = .returned (.slice a l.length c) ∧ BtR w' (.slice a l.length c) l ∧ (∀ k, (Value.slice a l.length c).ownBlock = some k → w.heap.size ≤ k ∧ k < w'.heap.size) ∧ Below w.heap.size w w' := by
  obtain ⟨i5, z5, hi5, hz0, hzc, hz1, hz3⟩ := info5p
  obtain ⟨a, cap, rfl, hc1, hc2⟩ := h.form
  unfold maxLen at hc2
  obtain ⟨g, o, rfl, hg, _⟩ := h.cell hn
  have HH : Hid _ := And.intro h h
  have hq := eq_sn w ⟨g, o, none⟩ l.length cap
  clear h
  go_enter Tryz.func149, Tryz.ntmps149
  go_wp2_with (first | (at_builtin; refine wpList_app _ rfl (.tmp 5) (.tmp 6) 32 rfl w.heap.size 5 i5 z5 1 1 Tryz.underlying32 hi5 hz0 hz1 hz3 hzc (by decide) (.slice (some ⟨w.heap.size, 0, none⟩) 0 0) 0 [] rfl (emp w 5) (some ⟨g, o, none⟩) l.length cap (l.map (Value.int .u8)) rfl (by simp) (src_below HH.out.1.src ((Below.refl _ _).alloc (Nat.le_refl _) _)) (one8 l) (by unfold maxLen; omega) (by omega) (by simp) ?_; intro v5 w5 hown5 hg5 hat5; obtain ⟨a5, c5, rfl⟩ := row_form hown5; have hb5 : Below w.heap.size w w5 := ((Below.refl w.heap.size w).alloc (Nat.le_refl _) _).grown hg5 (by simp) (fun b hb => by simp [Value.ownBlock] at hb; omega); have H5 : Hid _ := And.intro hown5 hb5; clear hown5 hg5 hat5 hb5))
  have hown5 : w5.ownsRow w.heap.size 5 1 (.slice a5 l.length c5) l.length (l.map (Value.int .u8)) := by simpa only [Nat.zero_add, List.nil_append] using H5.out.1
  have hbt5 : BtR w5 (.slice a5 l.length c5) l := btr_own hown5 rfl HH.out.1.byte
  have HF : Hid _ := And.intro hbt5 (fun k hk => row_base hown5 k hk)
  clear hown5 hbt5
  go_ret
  exact ⟨a5, c5, by simp, HF.out.1, HF.out.2, H5.out.2⟩
end Go.Proofs.YtgaegajcejpmdaaGreatDoor.Dc
