/- DecTexts: the walk. -/
import Derived.Test.YtakemkhgaicckaaL1
import Derived.Test.YtakemkhgaicckaaC2
import Derived.Test.YtakemkhgaicckaaC4
import Derived.Test.YtakemkhgaicckaaC5
import Derived.Test.YtakemkhgaicckaaC6
import Derived.Test.YtakemkhgaicckaaC6s
import Derived.Test.YtakemkhgaicckaaC6t
import Derived.Deep.RegionHeld3
namespace Go.Proofs.Ytakemkhgaicckaa
open Go.RowKit
set_option linter.unusedVariables false
set_option linter.unusedSimpArgs false

theorem par_er {l : List Int} {x : Int} (h : parS l = .error x) : x = 2 ∨ x = 3 := by
  unfold parS at h
  split at h
  · simp at h; omega
  · split at h
    · simp at h; omega
    · split at h
      · simp at h; omega
      · simp at h
theorem tx_dgs {n : Nm} (h : CN n) : ∀ d ∈ txS n, 0 ≤ d ∧ d < 256 := tx_byte h.1.dg
theorem PaP.no {l : List Int} {w w' : World} {e : Ending} {x : Int} (h : PaP l w e w') (hp : parS l = .error x) : e = .returned (.tuple #[nmV false (.slice none 0 0) 0, .int .i64 x]) ∧ Below w.heap.size w w' := by
  obtain ⟨hb, h2⟩ := h
  rw [hp] at h2
  exact ⟨h2, hb⟩
theorem PaP.yes {l : List Int} {w w' : World} {e : Ending} {n : Nm} (h : PaP l w e w') (hp : parS l = .ok n) : ∃ a c, e = .returned (.tuple #[nmV n.1 (.slice a n.2.1.length c) n.2.2, .int .i64 0]) ∧ NmR w' (.slice a n.2.1.length c) n ∧ Below w.heap.size w w' := by
  obtain ⟨hb, h2⟩ := h
  rw [hp] at h2
  obtain ⟨rv, rfl, ht⟩ := h2
  obtain ⟨a, c, rfl, _⟩ := ht.form
  exact ⟨a, c, rfl, ⟨ht, (par_ok hp).1, (par_ok hp).2.2.1⟩, hb⟩
theorem btn (w : World) (a : Option Addr) (c : Nat) (h : c ≤ maxLen) : BtR w (.slice a 0 c) [] := ⟨a, c, rfl, Nat.zero_le _, h, fun d hd => by simp at hd, .inl rfl⟩
theorem cAt {w : World} {T : Nat} {x y z : Value} {t : TypeId} (h : w.heap[T]? = some (.cells #[x, y, z] t (0, 0))) {W : World} (hb : Below w.heap.size w W) : W.heap[T]? = some (.cells #[x, y, z] t (0, 0)) := (hb.block _ (lt_of h)).trans h
set_option maxRecDepth 100000 in
set_option maxHeartbeats 6400000 in
theorem texts_no (P : Prg) (s : ByteArray) (neg : Bool) {dv : Value} {dl : List Int} (sc : Int) (w : World) (hd : BtR w dv dl) (h0 : -9223372036854775808 ≤ sc) (h1 : sc ≤ 9223372036854775807) (hdl : dl.length ≤ 600) (hsz : (s.size : Int) ≤ 600 ∨ (4096 < (s.size : Int) ∧ (s.size : Int) ≤ 16384)) {x : Int} (hp : parS (bl s) = .error x) : Calls Try.prog 3 #[.string s, .bool neg, dv, .int .i64 sc] w fun e w' => e = .returned (.bool true) ∧ Below w.heap.size w w' := by
  have HP : Hid _ := P
  obtain ⟨da, dc, rfl, hd1, hd2⟩ := hd.form
  have hdli : (dl.length : Int) ≤ 600 := by omega
  have hx0 : (x == 0) = false := by
    have := par_er hp
    have : ¬ x = 0 := by omega
    simpa using this
  have hx1 : (x != 0) = true := by
    have := par_er hp
    have : ¬ x = 0 := by omega
    simpa using this
  have HX : Hid _ := And.intro hp hd
  clear hp hd P
  go_enter Try.func3, Try.ntmps3
  rcases hsz with hs1 | ⟨hs1, hs2⟩
  case' inl =>
    go_wp2_with (first | (go_at_call 7; refine Calls.mono (known_s HP.out _) ?_; rintro e w0 ⟨rfl, hb0⟩))
  case' inr =>
    go_wp2_with (first | (go_at_call 7; refine Calls.mono (known_s HP.out _) ?_; rintro e w0 ⟨rfl, hb0⟩))
  all_goals
    have HB0 : Hid _ := hb0
    clear hb0
    refine Calls.mono (HP.out.parse s _ (by unfold maxLen; omega)) ?_
    rintro e w1 hp1
    obtain ⟨a1, c1, rfl, ht1, hb1⟩ := hp1.no HX.out.1
    have hc1 := ht1.lim.2.2
    have hbx := HB0.out.trans (hb1.mono HB0.out.size)
    have hB1 := nw_heap w1 (.cells #[.bool false, .slice a1 0 c1, .int .i64 0] 25)
    have hbU := hbx.alloc hbx.size (.cells #[.bool false, .slice a1 0 c1, .int .i64 0] 25)
    have H1 : Hid _ := And.intro hB1 hbU
    clear hp1 ht1 hb1 hbx hB1 hbU
    go_wp2_with fail
    generalize (w1.alloc (.cells #[.bool false, .slice a1 0 c1, .int .i64 0] 25)) = U1 at *
    refine Calls.mono (parse_r s _ (by unfold maxLen; omega)) ?_
    rintro e w2 hp2
    obtain ⟨rfl, hb2⟩ := hp2.no HX.out.1
    have hbx := H1.out.2.trans (hb2.mono H1.out.2.size)
    have e1 := cAt H1.out.1 hb2
    have hbA : Below w2.heap.size w2 (w2.alloc (.cells #[.bool false, .slice none 0 0, .int .i64 0] 29)) := (Below.refl _ _).alloc (Nat.le_refl _) _
    have hB2 := nw_heap w2 (.cells #[.bool false, .slice none 0 0, .int .i64 0] 29)
    have H2 : Hid _ := And.intro (cAt e1 hbA) (And.intro hB2 (hbx.trans (hbA.mono hbx.size)))
    clear hp2 hb2 hbx e1 hbA hB2 H1
    go_wp2_with fail
    have hsU : (w2.alloc (.cells #[.bool false, .slice none 0 0, .int .i64 0] 29)).heap.size = w2.heap.size + 1 := by simp
    generalize (w2.alloc (.cells #[.bool false, .slice none 0 0, .int .i64 0] 29)) = U2 at *
    have hbA : Below U2.heap.size U2 (U2.alloc (.cells #[.bool neg, .slice da dl.length dc, .int .i64 sc] 25)) := (Below.refl _ _).alloc (Nat.le_refl _) _
    have hB3 := nw_heap U2 (.cells #[.bool neg, .slice da dl.length dc, .int .i64 sc] 25)
    rw [hsU] at hB3
    clear hsU
    have H3 : Hid _ := And.intro (cAt H2.out.1 hbA) (And.intro (cAt H2.out.2.1 hbA) (And.intro hB3 (H2.out.2.2.trans (hbA.mono H2.out.2.2.size))))
    clear hbA hB3 H2
    generalize (U2.alloc (.cells #[.bool neg, .slice da dl.length dc, .int .i64 sc] 25)) = U3 at *
    have HB : Hid (Below U3.heap.size U3 U3.drew) := Below.drewN' 1
    have hkp : ∀ W, Below U3.heap.size U3 W → (W.cell? ⟨w1.heap.size, 0, none⟩ = some (.bool false) ∧ W.cell? ⟨w1.heap.size, 1, none⟩ = some (.slice a1 0 c1) ∧ W.cell? ⟨w1.heap.size, 2, none⟩ = some (.int .i64 0)) ∧ (W.cell? ⟨w2.heap.size, 0, none⟩ = some (.bool false) ∧ W.cell? ⟨w2.heap.size, 1, none⟩ = some (.slice none 0 0) ∧ W.cell? ⟨w2.heap.size, 2, none⟩ = some (.int .i64 0)) ∧ (W.cell? ⟨w2.heap.size + 1, 0, none⟩ = some (.bool neg) ∧ W.cell? ⟨w2.heap.size + 1, 1, none⟩ = some (.slice da dl.length dc) ∧ W.cell? ⟨w2.heap.size + 1, 2, none⟩ = some (.int .i64 sc)) := fun W hb => ⟨boxK H3.out.1 W hb, boxK H3.out.2.1 W hb, boxK H3.out.2.2.1 W hb⟩
    have HKP : Hid _ := hkp
    obtain ⟨⟨g00, g01, g02⟩, ⟨g10, g11, g12⟩, ⟨g20, g21, g22⟩⟩ := hkp U3 (Below.refl _ _)
    clear hkp
    have q1 := fun W (hb : Below U3.heap.size U3 W) => same_s (btn W a1 c1 hc1) (btn W none 0 (Nat.zero_le _)) false 0
    have hdW := fun W (hb : Below U3.heap.size U3 W) => HX.out.2.below (H3.out.2.2.2.trans (hb.mono H3.out.2.2.2.size))
    have q2 := fun W (hb : Below U3.heap.size U3 W) => HP.out.right (hdW W hb) neg sc h0 h1
    have q3 := fun W (hb : Below U3.heap.size U3 W) => of_s (w := W) neg da dl.length dc sc
    have q4 := fun W (hb : Below U3.heap.size U3 W) => right_r (hdW W hb) neg sc h0 h1
    generalize rgS neg dl sc = R at *
    have HC : Hid _ := And.intro q1 (And.intro q2 (And.intro q3 q4))
    clear q1 q2 q3 q4 hdW
    go_region_held3 (fun W => W.cell? ⟨w1.heap.size, 0, none⟩ = some (.bool false) ∧ W.cell? ⟨w1.heap.size, 1, none⟩ = some (.slice a1 0 c1) ∧ W.cell? ⟨w1.heap.size, 2, none⟩ = some (.int .i64 0) ∧ W.cell? ⟨w2.heap.size, 0, none⟩ = some (.bool false) ∧ W.cell? ⟨w2.heap.size, 1, none⟩ = some (.slice none 0 0) ∧ W.cell? ⟨w2.heap.size, 2, none⟩ = some (.int .i64 0) ∧ W.cell? ⟨w2.heap.size + 1, 0, none⟩ = some (.bool neg) ∧ W.cell? ⟨w2.heap.size + 1, 1, none⟩ = some (.slice da dl.length dc) ∧ W.cell? ⟨w2.heap.size + 1, 2, none⟩ = some (.int .i64 sc)) (exact ⟨g00, g01, g02, g10, g11, g12, g20, g21, g22⟩) (first
      | (go_at_call 10; (with_reducible refine Calls.mono (HC.out.1 _ HB.out) ?_); rintro e w9 ⟨rfl, hb9⟩; have hbb := HB.out.trans (hb9.mono HB.out.size); clear HB g00 g01 g02 g10 g11 g12 g20 g21 g22; obtain ⟨⟨g00, g01, g02⟩, ⟨g10, g11, g12⟩, ⟨g20, g21, g22⟩⟩ := HKP.out _ hbb; have HB : Hid _ := hbb; clear hbb hb9)
      | (go_at_call 11; (with_reducible refine Calls.mono (HC.out.2.1 _ HB.out) ?_); rintro e w9 ⟨rfl, hb9⟩; have hbb := HB.out.trans (hb9.mono HB.out.size); clear HB g00 g01 g02 g10 g11 g12 g20 g21 g22; obtain ⟨⟨g00, g01, g02⟩, ⟨g10, g11, g12⟩, ⟨g20, g21, g22⟩⟩ := HKP.out _ hbb; have HB : Hid _ := hbb; clear hbb hb9)
      | (go_at_call 12; (with_reducible refine Calls.mono (HC.out.2.2.1 _ HB.out) ?_); rintro e w9 ⟨rfl, hb9⟩; have hbb := HB.out.trans (hb9.mono HB.out.size); clear HB g00 g01 g02 g10 g11 g12 g20 g21 g22; obtain ⟨⟨g00, g01, g02⟩, ⟨g10, g11, g12⟩, ⟨g20, g21, g22⟩⟩ := HKP.out _ hbb; have HB : Hid _ := hbb; clear hbb hb9)
      | (go_at_call 13; (with_reducible refine Calls.mono (HC.out.2.2.2 _ HB.out) ?_); rintro e w9 ⟨rfl, hb9⟩; have hbb := HB.out.trans (hb9.mono HB.out.size); clear HB g00 g01 g02 g10 g11 g12 g20 g21 g22; obtain ⟨⟨g00, g01, g02⟩, ⟨g10, g11, g12⟩, ⟨g20, g21, g22⟩⟩ := HKP.out _ hbb; have HB : Hid _ := hbb; clear hbb hb9))
    all_goals
      go_wp2_with fail
      go_ret
      exact ⟨rfl, H3.out.2.2.2.trans (HB.out.mono H3.out.2.2.2.size)⟩
set_option maxRecDepth 100000 in
set_option maxHeartbeats 6400000 in
theorem texts_yes (P : Prg) (s : ByteArray) (neg : Bool) {dv : Value} {dl : List Int} (sc : Int) (w : World) (hd : BtR w dv dl) (h0 : -9223372036854775808 ≤ sc) (h1 : sc ≤ 9223372036854775807) (hdl : dl.length ≤ 600) (hs1 : (s.size : Int) ≤ 600) {n : Nm} (hp : parS (bl s) = .ok n) : Calls Try.prog 3 #[.string s, .bool neg, dv, .int .i64 sc] w fun e w' => e = .returned (.bool true) ∧ Below w.heap.size w w' := by
  have HP : Hid _ := P
  obtain ⟨da, dc, rfl, hd1, hd2⟩ := hd.form
  have hdli : (dl.length : Int) ≤ 600 := by omega
  have hok := par_ok hp
  have hln : n.2.1.length ≤ 600 := by
    have h := hok.2.1
    rw [bl_len] at h
    omega
  have htl := tx_len n hok.1
  have hpt : parS (bl (sb (txS n))) = .ok n := by
    rw [bl_sb (tx_dgs hok.1)]
    exact par_tx hok.1 (by omega)
  have hzt : (sb (txS n)).size ≤ 602 := by rw [← bl_len, bl_sb (tx_dgs hok.1)]; omega
  have HX : Hid _ := And.intro hp (And.intro hd hpt)
  clear hp hd P hpt hok htl
  go_enter Try.func3, Try.ntmps3
  go_wp2_with (first | (go_at_call 7; refine Calls.mono (known_s HP.out _) ?_; rintro e w0 ⟨rfl, hb0⟩))
  have HB0 : Hid _ := hb0
  clear hb0
  refine Calls.mono (HP.out.parse s _ (by unfold maxLen; omega)) ?_
  rintro e w1 hp1
  obtain ⟨a1, c1, rfl, hn1, hb1⟩ := hp1.ok HX.out.1 (by omega)
  obtain ⟨hx1, hba1⟩ := BxN.mk' (t := 25) hn1
  have hbx := HB0.out.trans (hb1.mono HB0.out.size)
  have H1 : Hid _ := And.intro hx1 (hbx.trans (hba1.mono hbx.size))
  clear hp1 hn1 hb1 hbx hx1 hba1
  go_wp2_with fail
  generalize (w1.alloc (.cells #[.bool n.1, .slice a1 n.2.1.length c1, .int .i64 n.2.2] 25)) = U1 at *
  refine Calls.mono (parse_r s _ (by unfold maxLen; omega)) ?_
  rintro e w2 hp2
  obtain ⟨a2, c2, rfl, hn2, hb2⟩ := hp2.yes HX.out.1
  obtain ⟨hx2, hba2⟩ := BxN.mk' (t := 29) hn2
  have hbU := hb2.trans (hba2.mono hb2.size)
  have H2 : Hid _ := And.intro (H1.out.1.below hbU) (And.intro hx2 (H1.out.2.trans (hbU.mono H1.out.2.size)))
  clear hp2 hn2 hb2 hx2 hba2 hbU H1
  go_wp2_with fail
  have hsU : (w2.alloc (.cells #[.bool n.1, .slice a2 n.2.1.length c2, .int .i64 n.2.2] 29)).heap.size = w2.heap.size + 1 := by simp
  generalize (w2.alloc (.cells #[.bool n.1, .slice a2 n.2.1.length c2, .int .i64 n.2.2] 29)) = U2 at *
  have hbA : Below U2.heap.size U2 (U2.alloc (.cells #[.bool neg, .slice da dl.length dc, .int .i64 sc] 25)) := (Below.refl _ _).alloc (Nat.le_refl _) _
  have hB3 := nw_heap U2 (.cells #[.bool neg, .slice da dl.length dc, .int .i64 sc] 25)
  rw [hsU] at hB3
  clear hsU
  have H3 : Hid _ := And.intro (H2.out.1.below hbA) (And.intro (H2.out.2.1.below hbA) (And.intro hB3 (H2.out.2.2.trans (hbA.mono H2.out.2.2.size))))
  clear hbA hB3 H2
  generalize (U2.alloc (.cells #[.bool neg, .slice da dl.length dc, .int .i64 sc] 25)) = U3 at *
  have HB : Hid (Below U3.heap.size U3 U3.drew) := Below.drewN' 1
  have hkp : ∀ W, Below U3.heap.size U3 W → (W.cell? ⟨w1.heap.size, 0, none⟩ = some (.bool n.1) ∧ W.cell? ⟨w1.heap.size, 1, none⟩ = some (.slice a1 n.2.1.length c1) ∧ W.cell? ⟨w1.heap.size, 2, none⟩ = some (.int .i64 n.2.2)) ∧ (W.cell? ⟨w2.heap.size, 0, none⟩ = some (.bool n.1) ∧ W.cell? ⟨w2.heap.size, 1, none⟩ = some (.slice a2 n.2.1.length c2) ∧ W.cell? ⟨w2.heap.size, 2, none⟩ = some (.int .i64 n.2.2)) ∧ (W.cell? ⟨w2.heap.size + 1, 0, none⟩ = some (.bool neg) ∧ W.cell? ⟨w2.heap.size + 1, 1, none⟩ = some (.slice da dl.length dc) ∧ W.cell? ⟨w2.heap.size + 1, 2, none⟩ = some (.int .i64 sc)) := fun W hb => ⟨boxK H3.out.1.bx W hb, boxK H3.out.2.1.bx W hb, boxK H3.out.2.2.1 W hb⟩
  have HKP : Hid _ := hkp
  obtain ⟨⟨g00, g01, g02⟩, ⟨g10, g11, g12⟩, ⟨g20, g21, g22⟩⟩ := hkp U3 (Below.refl _ _)
  clear hkp
  have q1 := fun W (hb : Below U3.heap.size U3 W) => same_s (H3.out.1.below hb).nm.bt (H3.out.2.1.below hb).nm.bt n.1 n.2.2
  have hdW := fun W (hb : Below U3.heap.size U3 W) => HX.out.2.1.below (H3.out.2.2.2.trans (hb.mono H3.out.2.2.2.size))
  have q2 := fun W (hb : Below U3.heap.size U3 W) => HP.out.right (hdW W hb) neg sc h0 h1
  have q3 := fun W (hb : Below U3.heap.size U3 W) => of_s (w := W) neg da dl.length dc sc
  have q4 := fun W (hb : Below U3.heap.size U3 W) => right_r (hdW W hb) neg sc h0 h1
  generalize rgS neg dl sc = R at *
  have HC : Hid _ := And.intro q1 (And.intro q2 (And.intro q3 q4))
  clear q1 q2 q3 q4 hdW
  go_cut [66] (fun v wx => v = .bool false ∧ Below U3.heap.size U3 wx)
  case first =>
    go_region_held3 (fun W => W.cell? ⟨w1.heap.size, 0, none⟩ = some (.bool n.1) ∧ W.cell? ⟨w1.heap.size, 1, none⟩ = some (.slice a1 n.2.1.length c1) ∧ W.cell? ⟨w1.heap.size, 2, none⟩ = some (.int .i64 n.2.2) ∧ W.cell? ⟨w2.heap.size, 0, none⟩ = some (.bool n.1) ∧ W.cell? ⟨w2.heap.size, 1, none⟩ = some (.slice a2 n.2.1.length c2) ∧ W.cell? ⟨w2.heap.size, 2, none⟩ = some (.int .i64 n.2.2) ∧ W.cell? ⟨w2.heap.size + 1, 0, none⟩ = some (.bool neg) ∧ W.cell? ⟨w2.heap.size + 1, 1, none⟩ = some (.slice da dl.length dc) ∧ W.cell? ⟨w2.heap.size + 1, 2, none⟩ = some (.int .i64 sc)) (exact ⟨g00, g01, g02, g10, g11, g12, g20, g21, g22⟩) (first
      | (go_at_call 10; (with_reducible refine Calls.mono (HC.out.1 _ HB.out) ?_); rintro e w9 ⟨rfl, hb9⟩; have hbb := HB.out.trans (hb9.mono HB.out.size); clear HB g00 g01 g02 g10 g11 g12 g20 g21 g22; obtain ⟨⟨g00, g01, g02⟩, ⟨g10, g11, g12⟩, ⟨g20, g21, g22⟩⟩ := HKP.out _ hbb; have HB : Hid _ := hbb; clear hbb hb9)
      | (go_at_call 11; (with_reducible refine Calls.mono (HC.out.2.1 _ HB.out) ?_); rintro e w9 ⟨rfl, hb9⟩; have hbb := HB.out.trans (hb9.mono HB.out.size); clear HB g00 g01 g02 g10 g11 g12 g20 g21 g22; obtain ⟨⟨g00, g01, g02⟩, ⟨g10, g11, g12⟩, ⟨g20, g21, g22⟩⟩ := HKP.out _ hbb; have HB : Hid _ := hbb; clear hbb hb9)
      | (go_at_call 12; (with_reducible refine Calls.mono (HC.out.2.2.1 _ HB.out) ?_); rintro e w9 ⟨rfl, hb9⟩; have hbb := HB.out.trans (hb9.mono HB.out.size); clear HB g00 g01 g02 g10 g11 g12 g20 g21 g22; obtain ⟨⟨g00, g01, g02⟩, ⟨g10, g11, g12⟩, ⟨g20, g21, g22⟩⟩ := HKP.out _ hbb; have HB : Hid _ := hbb; clear hbb hb9)
      | (go_at_call 13; (with_reducible refine Calls.mono (HC.out.2.2.2 _ HB.out) ?_); rintro e w9 ⟨rfl, hb9⟩; have hbb := HB.out.trans (hb9.mono HB.out.size); clear HB g00 g01 g02 g10 g11 g12 g20 g21 g22; obtain ⟨⟨g00, g01, g02⟩, ⟨g10, g11, g12⟩, ⟨g20, g21, g22⟩⟩ := HKP.out _ hbb; have HB : Hid _ := hbb; clear hbb hb9))
    all_goals
      go_wp2_with fail
      go_meet
      case rel => exact ⟨by simp, HB.out⟩
  case rest =>
    obtain ⟨rfl, hbc⟩ := hcut
    have H4 : Hid _ := And.intro (H3.out.1.below hbc) (And.intro (H3.out.2.1.below hbc) (H3.out.2.2.2.trans (hbc.mono H3.out.2.2.2.size)))
    clear g00 g01 g02 g10 g11 g12 g20 g21 g22 HB HKP HC
    obtain ⟨k10, k11, k12⟩ := bl3 H4.out.1.bx
    clear H3 hbc
    go_wp2_with fail
    refine Calls.mono (HP.out.text H4.out.1.nm) ?_
    rintro e w5 ⟨rfl, hb5⟩
    have H5 : Hid _ := And.intro (H4.out.1.below hb5) (And.intro (H4.out.2.1.below hb5) (H4.out.2.2.trans (hb5.mono H4.out.2.2.size)))
    clear hb5 H4 k10 k11 k12
    obtain ⟨tx, htx⟩ : ∃ tx, sb (txS n) = tx := ⟨_, rfl⟩
    rw [htx] at hzt
    rw [htx]
    have HTX : Hid _ := And.intro htx (by have := HX.out.2.2; rwa [htx] at this)
    clear htx
    go_wp2_with fail
    refine Calls.mono (HP.out.parse tx _ (by unfold maxLen; omega)) ?_
    rintro e w6 hp6
    obtain ⟨a6, c6, rfl, hn6, hb6⟩ := hp6.ok HTX.out.2 (by omega)
    obtain ⟨hx6, hba6⟩ := BxN.mk' (t := 25) hn6
    have hbU := hb6.trans (hba6.mono hb6.size)
    have H6 : Hid _ := And.intro (H5.out.1.below hbU) (And.intro (H5.out.2.1.below hbU) (And.intro hx6 (H5.out.2.2.trans (hbU.mono H5.out.2.2.size))))
    clear hp6 hn6 hb6 hx6 hba6 hbU H5
    go_upto_region 13 with fail
    generalize (w6.alloc (.cells #[.bool n.1, .slice a6 n.2.1.length c6, .int .i64 n.2.2] 25)) = U6 at *
    have HB : Hid (Below U6.heap.size U6 U6.drew) := Below.drewN' 1
    have hkp : ∀ W, Below U6.heap.size U6 W → (W.cell? ⟨w1.heap.size, 0, none⟩ = some (.bool n.1) ∧ W.cell? ⟨w1.heap.size, 1, none⟩ = some (.slice a1 n.2.1.length c1) ∧ W.cell? ⟨w1.heap.size, 2, none⟩ = some (.int .i64 n.2.2)) ∧ (W.cell? ⟨w2.heap.size, 0, none⟩ = some (.bool n.1) ∧ W.cell? ⟨w2.heap.size, 1, none⟩ = some (.slice a2 n.2.1.length c2) ∧ W.cell? ⟨w2.heap.size, 2, none⟩ = some (.int .i64 n.2.2)) ∧ (W.cell? ⟨w6.heap.size, 0, none⟩ = some (.bool n.1) ∧ W.cell? ⟨w6.heap.size, 1, none⟩ = some (.slice a6 n.2.1.length c6) ∧ W.cell? ⟨w6.heap.size, 2, none⟩ = some (.int .i64 n.2.2)) := fun W hb => ⟨boxK H6.out.1.bx W hb, boxK H6.out.2.1.bx W hb, boxK H6.out.2.2.1.bx W hb⟩
    have HKP : Hid _ := hkp
    obtain ⟨⟨g00, g01, g02⟩, ⟨g10, g11, g12⟩, ⟨g20, g21, g22⟩⟩ := hkp U6 (Below.refl _ _)
    clear hkp
    have hrg := rg_ok H6.out.1.nm.cn H6.out.1.nm.le
    have hlen6 := H6.out.1.nm.cn.1.len
    have q1 := fun W (hb : Below U6.heap.size U6 W) => HP.out.right (H6.out.1.below hb).nm.bt n.1 n.2.2 (by omega) (by omega)
    rw [hrg] at q1
    have q2 := fun W (hb : Below U6.heap.size U6 W) => HP.out.text (H6.out.1.below hb).nm
    have q3 := fun W (hb : Below U6.heap.size U6 W) => text_r (H6.out.2.1.below hb).nm
    rw [HTX.out.1] at q2 q3
    have q4 := fun W (hb : Below U6.heap.size U6 W) => HP.out.total (H6.out.1.below hb).nm
    have q5 := fun W (hb : Below U6.heap.size U6 W) => total_r (H6.out.2.1.below hb).nm.bt n.1 n.2.2 (by omega) (by omega)
    generalize totS n.2.1 n.2.2 = TT at *
    have q6 := fun W (hb : Below U6.heap.size U6 W) => HP.out.frac (H6.out.1.below hb).nm
    have q7 := fun W (hb : Below U6.heap.size U6 W) => HP.out.whole (H6.out.1.below hb).nm
    have q8 := fun W (hb : Below U6.heap.size U6 W) => same_s (H6.out.2.2.1.below hb).nm.bt (H6.out.2.1.below hb).nm.bt n.1 n.2.2
    have hwh : decide (n.2.2 = 0) = (((n.2.2 : Nat) : Int) == 0) := by rw [Bool.eq_iff_iff]; simp
    rw [hwh] at q7
    obtain ⟨WZ, hWZ⟩ : ∃ z, (((n.2.2 : Nat) : Int) == 0) = z := ⟨_, rfl⟩
    rw [hWZ] at q7
    have HC : Hid _ := And.intro q1 (And.intro q2 (And.intro q3 (And.intro q4 (And.intro q5 (And.intro q6 (And.intro q7 q8))))))
    clear q1 q2 q3 q4 q5 q6 q7 q8 hrg hwh
    go_region_held3 (fun W => W.cell? ⟨w1.heap.size, 0, none⟩ = some (.bool n.1) ∧ W.cell? ⟨w1.heap.size, 1, none⟩ = some (.slice a1 n.2.1.length c1) ∧ W.cell? ⟨w1.heap.size, 2, none⟩ = some (.int .i64 n.2.2) ∧ W.cell? ⟨w2.heap.size, 0, none⟩ = some (.bool n.1) ∧ W.cell? ⟨w2.heap.size, 1, none⟩ = some (.slice a2 n.2.1.length c2) ∧ W.cell? ⟨w2.heap.size, 2, none⟩ = some (.int .i64 n.2.2) ∧ W.cell? ⟨w6.heap.size, 0, none⟩ = some (.bool n.1) ∧ W.cell? ⟨w6.heap.size, 1, none⟩ = some (.slice a6 n.2.1.length c6) ∧ W.cell? ⟨w6.heap.size, 2, none⟩ = some (.int .i64 n.2.2)) (exact ⟨g00, g01, g02, g10, g11, g12, g20, g21, g22⟩) (first
      | (go_at_call 11; (with_reducible refine Calls.mono (HC.out.1 _ HB.out) ?_); rintro e w9 ⟨rfl, hb9⟩; have hbb := HB.out.trans (hb9.mono HB.out.size); clear HB g00 g01 g02 g10 g11 g12 g20 g21 g22; obtain ⟨⟨g00, g01, g02⟩, ⟨g10, g11, g12⟩, ⟨g20, g21, g22⟩⟩ := HKP.out _ hbb; have HB : Hid _ := hbb; clear hbb hb9)
      | (go_at_call 14; (with_reducible refine Calls.mono (HC.out.2.1 _ HB.out) ?_); rintro e w9 ⟨rfl, hb9⟩; have hbb := HB.out.trans (hb9.mono HB.out.size); clear HB g00 g01 g02 g10 g11 g12 g20 g21 g22; obtain ⟨⟨g00, g01, g02⟩, ⟨g10, g11, g12⟩, ⟨g20, g21, g22⟩⟩ := HKP.out _ hbb; have HB : Hid _ := hbb; clear hbb hb9)
      | (go_at_call 15; (with_reducible refine Calls.mono (HC.out.2.2.1 _ HB.out) ?_); rintro e w9 ⟨rfl, hb9⟩; have hbb := HB.out.trans (hb9.mono HB.out.size); clear HB g00 g01 g02 g10 g11 g12 g20 g21 g22; obtain ⟨⟨g00, g01, g02⟩, ⟨g10, g11, g12⟩, ⟨g20, g21, g22⟩⟩ := HKP.out _ hbb; have HB : Hid _ := hbb; clear hbb hb9)
      | (go_at_call 16; (with_reducible refine Calls.mono (HC.out.2.2.2.1 _ HB.out) ?_); rintro e w9 ⟨rfl, hb9⟩; have hbb := HB.out.trans (hb9.mono HB.out.size); clear HB g00 g01 g02 g10 g11 g12 g20 g21 g22; obtain ⟨⟨g00, g01, g02⟩, ⟨g10, g11, g12⟩, ⟨g20, g21, g22⟩⟩ := HKP.out _ hbb; have HB : Hid _ := hbb; clear hbb hb9)
      | (go_at_call 17; (with_reducible refine Calls.mono (HC.out.2.2.2.2.1 _ HB.out) ?_); rintro e w9 ⟨rfl, hb9⟩; have hbb := HB.out.trans (hb9.mono HB.out.size); clear HB g00 g01 g02 g10 g11 g12 g20 g21 g22; obtain ⟨⟨g00, g01, g02⟩, ⟨g10, g11, g12⟩, ⟨g20, g21, g22⟩⟩ := HKP.out _ hbb; have HB : Hid _ := hbb; clear hbb hb9)
      | (go_at_call 18; (with_reducible refine Calls.mono (HC.out.2.2.2.2.2.1 _ HB.out) ?_); rintro e w9 ⟨rfl, hb9⟩; have hbb := HB.out.trans (hb9.mono HB.out.size); clear HB g00 g01 g02 g10 g11 g12 g20 g21 g22; obtain ⟨⟨g00, g01, g02⟩, ⟨g10, g11, g12⟩, ⟨g20, g21, g22⟩⟩ := HKP.out _ hbb; have HB : Hid _ := hbb; clear hbb hb9)
      | (go_at_call 19; (with_reducible refine Calls.mono (HC.out.2.2.2.2.2.2.1 _ HB.out) ?_); rintro e w9 ⟨rfl, hb9⟩; have hbb := HB.out.trans (hb9.mono HB.out.size); clear HB g00 g01 g02 g10 g11 g12 g20 g21 g22; obtain ⟨⟨g00, g01, g02⟩, ⟨g10, g11, g12⟩, ⟨g20, g21, g22⟩⟩ := HKP.out _ hbb; have HB : Hid _ := hbb; clear hbb hb9)
      | (go_at_call 10; (with_reducible refine Calls.mono (HC.out.2.2.2.2.2.2.2 _ HB.out) ?_); rintro e w9 ⟨rfl, hb9⟩; have hbb := HB.out.trans (hb9.mono HB.out.size); clear HB g00 g01 g02 g10 g11 g12 g20 g21 g22; obtain ⟨⟨g00, g01, g02⟩, ⟨g10, g11, g12⟩, ⟨g20, g21, g22⟩⟩ := HKP.out _ hbb; have HB : Hid _ := hbb; clear hbb hb9))
    all_goals
      go_wp2_with fail
      go_ret
      exact ⟨rfl, H6.out.2.2.2.trans (HB.out.mono H6.out.2.2.2.size)⟩
set_option maxRecDepth 100000 in
set_option maxHeartbeats 3200000 in
theorem texts_s (P : Prg) (s : ByteArray) (neg : Bool) {dv : Value} {dl : List Int} (sc : Int) (w : World) (hd : BtR w dv dl) (h0 : -9223372036854775808 ≤ sc) (h1 : sc ≤ 9223372036854775807) (hs : s.size ≤ maxLen) : Calls Try.prog 3 #[.string s, .bool neg, dv, .int .i64 sc] w fun e w' => e = .returned (.bool true) ∧ Below w.heap.size w w' := by
  have HP : Hid _ := P
  have HD : Hid _ := hd
  obtain ⟨da, dc, rfl, hd1, hd2⟩ := hd.form
  unfold maxLen at hs hd2
  clear hd P
  have hcase : (600 < (s.size : Int) ∧ (s.size : Int) ≤ 4096) ∨ 16384 < (s.size : Int) ∨ (s.size : Int) ≤ 600 ∨ (4096 < (s.size : Int) ∧ (s.size : Int) ≤ 16384) := by omega
  rcases hcase with ⟨p1, p2⟩ | p1 | p1 | ⟨p1, p2⟩
  · go_enter Try.func3, Try.ntmps3
    go_wp2_with (first | (go_at_call 7; refine Calls.mono (known_s HP.out _) ?_; rintro e w0 ⟨rfl, hb0⟩))
    go_ret
    exact ⟨rfl, hb0⟩
  · go_enter Try.func3, Try.ntmps3
    go_wp2_with (first | (go_at_call 7; refine Calls.mono (known_s HP.out _) ?_; rintro e w0 ⟨rfl, hb0⟩))
    go_ret
    exact ⟨rfl, hb0⟩
  · by_cases hdl : dl.length ≤ 600
    · cases hp : parS (bl s) with
      | error x => exact texts_no HP.out s neg sc w HD.out h0 h1 hdl (.inl p1) hp
      | ok n => exact texts_yes HP.out s neg sc w HD.out h0 h1 hdl p1 hp
    · have p3 : 600 < (dl.length : Int) := by omega
      go_enter Try.func3, Try.ntmps3
      go_wp2_with (first | (go_at_call 7; refine Calls.mono (known_s HP.out _) ?_; rintro e w0 ⟨rfl, hb0⟩))
      go_ret
      exact ⟨rfl, hb0⟩
  · by_cases hdl : dl.length ≤ 600
    · have hp : parS (bl s) = .error 3 := by
        unfold parS
        rw [bl_len, if_pos (by omega)]
      exact texts_no HP.out s neg sc w HD.out h0 h1 hdl (.inr ⟨p1, p2⟩) hp
    · have p3 : 600 < (dl.length : Int) := by omega
      go_enter Try.func3, Try.ntmps3
      go_wp2_with (first | (go_at_call 7; refine Calls.mono (known_s HP.out _) ?_; rintro e w0 ⟨rfl, hb0⟩))
      go_ret
      exact ⟨rfl, hb0⟩
end Go.Proofs.Ytakemkhgaicckaa
