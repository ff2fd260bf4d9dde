/- The program: counted. -/
import Derived.Test.YtgaegajcejpmdaaGreatDoorHJ14
namespace Go.Proofs.YtgaegajcejpmdaaGreatDoor
open Go.RowKit
set_option linter.unusedVariables false
set_option linter.unusedSimpArgs false

theorem cmp0 {n : Dc.Nm} (h : Dc.CN n) (h0 : n.2.2 = 0) : (Dc.cmpS n (false, [0], 0) = -1 ∧ Dc.nv n 0 < 0) ∨ (Dc.cmpS n (false, [0], 0) = 0 ∧ Dc.nv n 0 = 0) ∨ (Dc.cmpS n (false, [0], 0) = 1 ∧ 0 < Dc.nv n 0) := by
  have := Dc.cmp_at (S := 0) h Dc.z_cn (by omega) (Nat.le_refl _)
  rw [Dc.z_nv] at this
  exact this
theorem wd16 (w : World) : Calls Tryz.prog 111 #[.int .i64 16] w fun e w' => e = .returned (.int .i64 64) ∧ w' = w := width_p 16 (by omega) (by omega) w
theorem wd17 (w : World) : Calls Tryz.prog 111 #[.int .i64 17] w fun e w' => e = .returned (.int .i64 32) ∧ w' = w := width_p 17 (by omega) (by omega) w
theorem wd18 (w : World) : Calls Tryz.prog 111 #[.int .i64 18] w fun e w' => e = .returned (.int .i64 16) ∧ w' = w := width_p 18 (by omega) (by omega) w
theorem wd19 (w : World) : Calls Tryz.prog 111 #[.int .i64 19] w fun e w' => e = .returned (.int .i64 8) ∧ w' = w := width_p 19 (by omega) (by omega) w
theorem wd20 (w : World) : Calls Tryz.prog 111 #[.int .i64 20] w fun e w' => e = .returned (.int .i64 64) ∧ w' = w := width_p 20 (by omega) (by omega) w
theorem wd21 (w : World) : Calls Tryz.prog 111 #[.int .i64 21] w fun e w' => e = .returned (.int .i64 32) ∧ w' = w := width_p 21 (by omega) (by omega) w
theorem wd22 (w : World) : Calls Tryz.prog 111 #[.int .i64 22] w fun e w' => e = .returned (.int .i64 16) ∧ w' = w := width_p 22 (by omega) (by omega) w
theorem wd23 (w : World) : Calls Tryz.prog 111 #[.int .i64 23] w fun e w' => e = .returned (.int .i64 8) ∧ w' = w := width_p 23 (by omega) (by omega) w
set_option maxRecDepth 100000 in
set_option maxHeartbeats 6400000 in
theorem counted_p (k : Int) (s : ByteArray) {n : Dc.Nm} {v : Value} {w : World} (hk0 : 10 ≤ k) (hk1 : k ≤ 23) (h : Dc.NmR w v n) (hp : Dc.parS (Dc.bl s) = .ok n) (hw : Lw w) : Calls Tryz.prog 60 #[.int .i64 k, .string s, Dc.nmV n.1 v n.2.2] w fun e w' => e = .returned (.bool (cntB k (Dc.bl s) n)) ∧ Below w.heap.size w w' := by
  obtain ⟨va, vc, rfl, _⟩ := h.bt.form
  have hb0 : Below w.heap.size w (w.alloc (.cells #[.bool n.1, .slice va n.2.1.length vc, .int .i64 n.2.2] 34)) := (Below.refl _ _).alloc (Nat.le_refl _) _
  have hx := Dc.nw_heap w (.cells #[.bool n.1, .slice va n.2.1.length vc, .int .i64 n.2.2] 34)
  by_cases hk10 : k = 10
  · subst hk10
    have HB0 : Hid _ := hb0
    clear hb0 hx hk0 hk1
    go_enter Tryz.func60, Tryz.ntmps60
    go_wp2_with fail
    go_ret
    exact ⟨rfl, HB0.out⟩
  · have hkb : (k == 10) = false := by simpa using hk10
    by_cases hix : Dc.ix (Dc.bl s) = -1
    case neg =>
      have hd : decide (0 ≤ Dc.ix (Dc.bl s)) = true := by
        have := Dc.ix_bd (Dc.bl s)
        simp; omega
      have HE : Hid (cntB k (Dc.bl s) n = false) := by show _ = _; unfold cntB; rw [if_neg hk10, if_neg hix]
      have HB0 : Hid _ := hb0
      have hcp := fun W => contains_p s W
      rw [hd] at hcp
      clear hb0 hx hk0 hk1 hk10 hix hd
      go_enter Tryz.func60, Tryz.ntmps60
      go_wp2_with (go_at_call 108; refine (hcp _).mono ?_; rintro e w' ⟨rfl, rfl⟩)
      go_ret
      exact ⟨ret_b HE.out.symm, HB0.out⟩
    case pos =>
      have hd : decide (0 ≤ Dc.ix (Dc.bl s)) = false := by rw [hix]; rfl
      have HE : Hid (cntB k (Dc.bl s) n = wiB k (Dc.nv n 0)) := by show _ = _; unfold cntB; rw [if_neg hk10, if_pos hix]
      have hn0 := par_whole hp hix
      have hcp := fun W => contains_p s W
      rw [hd] at hcp
      have hc0 := cmp0 h.cn hn0
      generalize hU : w.alloc (.cells #[.bool n.1, .slice va n.2.1.length vc, .int .i64 n.2.2] 34) = U at hb0 hx
      have qi := fun W (hW : Below U.heap.size U W) => Dc.int_p 0 (by omega) (by omega) W (hw.tab.below (hb0.trans (hW.mono hb0.size)))
      have qc := fun W (hW : Below U.heap.size U W) v' (hv' : Dc.NmR W v' (false, [0], 0)) => Dc.cmp_p (h.below (hb0.trans (hW.mono hb0.size))) hv'
      have qt := fun W (hW : Below U.heap.size U W) => Dc.text_p (h.below (hb0.trans (hW.mono hb0.size)))
      have qw := fun W (hW : Below U.heap.size U W) => hw.below (hb0.trans (hW.mono hb0.size))
      have hcn := h.cn
      have hle := h.le
      have hkp : ∀ W, Below U.heap.size U W → (W.cell? ⟨w.heap.size, 0, none⟩ = some (.bool n.1) ∧ W.cell? ⟨w.heap.size, 1, none⟩ = some (.slice va n.2.1.length vc) ∧ W.cell? ⟨w.heap.size, 2, none⟩ = some (.int .i64 n.2.2)) := fun W hb => Dc.boxK hx W hb
      have HKP : Hid _ := hkp
      have HB : Hid (Below U.heap.size U U.drew) := Dc.Below.drewN' 1
      obtain ⟨g00, g01, g02⟩ := hkp U (Below.refl _ _)
      have e0 : Dc.inS 0 = (false, [0], 0) := rfl
      rw [e0] at qi
      generalize hcz : Dc.cmpS n (false, [0], 0) = c at *
      generalize hvz : Dc.nv n 0 = vz at *
      have HH : Hid _ := And.intro qi (And.intro qc (And.intro qt (And.intro qw (And.intro hb0 (And.intro hc0 (And.intro hn0 (And.intro hle (And.intro hcn hvz))))))))
      clear qi qc qt qw hb0 hc0 hn0 hle hcn hvz hkp hx h hp hw hix hd e0 hcz
      go_enter Tryz.func60, Tryz.ntmps60
      go_upto_region 5 with (go_at_call 108; refine (hcp _).mono ?_; rintro e w' ⟨rfl, rfl⟩)
      go_region_held3 (fun W => W.cell? ⟨w.heap.size, 0, none⟩ = some (.bool n.1) ∧ W.cell? ⟨w.heap.size, 1, none⟩ = some (.slice va n.2.1.length vc) ∧ W.cell? ⟨w.heap.size, 2, none⟩ = some (.int .i64 n.2.2)) (first | exact ⟨g00, g01, g02⟩ | go_keep) (first
        | (go_at_call 109; (with_reducible refine Calls.mono (HH.out.1 _ HB.out) ?_); rintro e w9 ⟨a9, c9, rfl, hn9, hb9⟩; have hbb := HB.out.trans (hb9.mono HB.out.size); clear HB g00 g01 g02; obtain ⟨g00, g01, g02⟩ := HKP.out _ hbb; have HB : Hid _ := hbb; have HN : Hid _ := hn9; clear hbb hb9 hn9)
        | (go_at_call 30; (with_reducible refine Calls.mono (HH.out.2.1 _ HB.out _ HN.out) ?_); rintro e w9 ⟨rfl, hb9⟩; have hbb := HB.out.trans (hb9.mono HB.out.size); clear HB g00 g01 g02; obtain ⟨g00, g01, g02⟩ := HKP.out _ hbb; have HB : Hid _ := hbb; clear hbb hb9))
      rcases (by omega : k = 11 ∨ k = 12 ∨ k = 13 ∨ k = 14 ∨ k = 15 ∨ k = 16 ∨ k = 17 ∨ k = 18 ∨ k = 19 ∨ k = 20 ∨ k = 21 ∨ k = 22 ∨ k = 23) with rfl | rfl | rfl | rfl | rfl | rfl | rfl | rfl | rfl | rfl | rfl | rfl | rfl
      all_goals clear hk0 hk1 hk10
      · go_wp2_with fail
        go_ret
        exact ⟨ret_b (HE.out.trans rfl).symm, HH.out.2.2.2.2.1.trans (HB.out.mono HH.out.2.2.2.2.1.size)⟩
      · go_wp2_with fail
        all_goals
          go_ret
          refine ⟨ret_b ?_, HH.out.2.2.2.2.1.trans (HB.out.mono HH.out.2.2.2.2.1.size)⟩
          rw [HE.out]
          have := HH.out.2.2.2.2.2.1
          rw [Bool.eq_iff_iff]
          simp [wiB]
          omega
      · go_wp2_with fail
        all_goals
          go_ret
          refine ⟨ret_b ?_, HH.out.2.2.2.2.1.trans (HB.out.mono HH.out.2.2.2.2.1.size)⟩
          rw [HE.out]
          have := HH.out.2.2.2.2.2.1
          rw [Bool.eq_iff_iff]
          simp [wiB]
          omega
      · go_wp2_with fail
        all_goals
          go_ret
          refine ⟨ret_b ?_, HH.out.2.2.2.2.1.trans (HB.out.mono HH.out.2.2.2.2.1.size)⟩
          rw [HE.out]
          have := HH.out.2.2.2.2.2.1
          rw [Bool.eq_iff_iff]
          simp [wiB]
          omega
      · go_wp2_with fail
        all_goals
          go_ret
          refine ⟨ret_b ?_, HH.out.2.2.2.2.1.trans (HB.out.mono HH.out.2.2.2.2.1.size)⟩
          rw [HE.out]
          have := HH.out.2.2.2.2.2.1
          rw [Bool.eq_iff_iff]
          simp [wiB]
          omega
      · by_cases hr : -9223372036854775808 ≤ vz ∧ vz ≤ 9223372036854775807
        · have HR : Hid _ := hr
          have hwi : Hid (wiB 16 vz = true) := by show _ = _; simp [wiB]; omega
          clear hr
          go_wp2_with (first | (go_at_call 32; (with_reducible refine Calls.mono (HH.out.2.2.1 _ HB.out) ?_); rintro e w9 ⟨rfl, hb9⟩; have hbb := HB.out.trans (hb9.mono HB.out.size); clear HB g00 g01 g02; obtain ⟨g00, g01, g02⟩ := HKP.out _ hbb; have HB : Hid _ := hbb; clear hbb hb9) | (go_at_call 111; refine (wd16 _).mono ?_; rintro e w8 ⟨rfl, rfl⟩) | (go_at_call 110; (with_reducible refine Calls.mono (pi64_ok HH.out.2.2.2.2.2.2.2.2.1 HH.out.2.2.2.2.2.2.1 HH.out.2.2.2.2.2.2.2.1 (by rw [HH.out.2.2.2.2.2.2.2.2.2]; exact HR.out) _) ?_); rintro e w9 ⟨rfl, hb9⟩; have hbb := HB.out.trans (hb9.mono HB.out.size); clear HB g00 g01 g02; have HB : Hid _ := hbb; clear hbb hb9))
          go_ret
          exact ⟨ret_b (HE.out.trans hwi.out).symm, HH.out.2.2.2.2.1.trans (HB.out.mono HH.out.2.2.2.2.1.size)⟩
        · have HR : Hid _ := hr
          have hwi : Hid (wiB 16 vz = false) := by show _ = _; simp [wiB]; omega
          clear hr
          go_wp2_with (first | (go_at_call 32; (with_reducible refine Calls.mono (HH.out.2.2.1 _ HB.out) ?_); rintro e w9 ⟨rfl, hb9⟩; have hbb := HB.out.trans (hb9.mono HB.out.size); clear HB g00 g01 g02; obtain ⟨g00, g01, g02⟩ := HKP.out _ hbb; have HB : Hid _ := hbb; clear hbb hb9) | (go_at_call 111; refine (wd16 _).mono ?_; rintro e w8 ⟨rfl, rfl⟩) | (go_at_call 110; (with_reducible refine Calls.mono (pi64_no HH.out.2.2.2.2.2.2.2.2.1 HH.out.2.2.2.2.2.2.1 HH.out.2.2.2.2.2.2.2.1 (by rw [HH.out.2.2.2.2.2.2.2.2.2]; exact HR.out) _ (HH.out.2.2.2.1 _ HB.out)) ?_); rintro e w9 ⟨x9, N9, rfl, hb9⟩; have hbb := HB.out.trans (hb9.mono HB.out.size); clear HB g00 g01 g02; have HB : Hid _ := hbb; clear hbb hb9))
          go_ret
          exact ⟨ret_b (HE.out.trans hwi.out).symm, HH.out.2.2.2.2.1.trans (HB.out.mono HH.out.2.2.2.2.1.size)⟩
      · by_cases hr : -2147483648 ≤ vz ∧ vz ≤ 2147483647
        · have HR : Hid _ := hr
          have hwi : Hid (wiB 17 vz = true) := by show _ = _; simp [wiB]; omega
          clear hr
          go_wp2_with (first | (go_at_call 32; (with_reducible refine Calls.mono (HH.out.2.2.1 _ HB.out) ?_); rintro e w9 ⟨rfl, hb9⟩; have hbb := HB.out.trans (hb9.mono HB.out.size); clear HB g00 g01 g02; obtain ⟨g00, g01, g02⟩ := HKP.out _ hbb; have HB : Hid _ := hbb; clear hbb hb9) | (go_at_call 111; refine (wd17 _).mono ?_; rintro e w8 ⟨rfl, rfl⟩) | (go_at_call 110; (with_reducible refine Calls.mono (pi32_ok HH.out.2.2.2.2.2.2.2.2.1 HH.out.2.2.2.2.2.2.1 HH.out.2.2.2.2.2.2.2.1 (by rw [HH.out.2.2.2.2.2.2.2.2.2]; exact HR.out) _) ?_); rintro e w9 ⟨rfl, hb9⟩; have hbb := HB.out.trans (hb9.mono HB.out.size); clear HB g00 g01 g02; have HB : Hid _ := hbb; clear hbb hb9))
          go_ret
          exact ⟨ret_b (HE.out.trans hwi.out).symm, HH.out.2.2.2.2.1.trans (HB.out.mono HH.out.2.2.2.2.1.size)⟩
        · have HR : Hid _ := hr
          have hwi : Hid (wiB 17 vz = false) := by show _ = _; simp [wiB]; omega
          clear hr
          go_wp2_with (first | (go_at_call 32; (with_reducible refine Calls.mono (HH.out.2.2.1 _ HB.out) ?_); rintro e w9 ⟨rfl, hb9⟩; have hbb := HB.out.trans (hb9.mono HB.out.size); clear HB g00 g01 g02; obtain ⟨g00, g01, g02⟩ := HKP.out _ hbb; have HB : Hid _ := hbb; clear hbb hb9) | (go_at_call 111; refine (wd17 _).mono ?_; rintro e w8 ⟨rfl, rfl⟩) | (go_at_call 110; (with_reducible refine Calls.mono (pi32_no HH.out.2.2.2.2.2.2.2.2.1 HH.out.2.2.2.2.2.2.1 HH.out.2.2.2.2.2.2.2.1 (by rw [HH.out.2.2.2.2.2.2.2.2.2]; exact HR.out) _ (HH.out.2.2.2.1 _ HB.out)) ?_); rintro e w9 ⟨x9, N9, rfl, hb9⟩; have hbb := HB.out.trans (hb9.mono HB.out.size); clear HB g00 g01 g02; have HB : Hid _ := hbb; clear hbb hb9))
          go_ret
          exact ⟨ret_b (HE.out.trans hwi.out).symm, HH.out.2.2.2.2.1.trans (HB.out.mono HH.out.2.2.2.2.1.size)⟩
      · by_cases hr : -32768 ≤ vz ∧ vz ≤ 32767
        · have HR : Hid _ := hr
          have hwi : Hid (wiB 18 vz = true) := by show _ = _; simp [wiB]; omega
          clear hr
          go_wp2_with (first | (go_at_call 32; (with_reducible refine Calls.mono (HH.out.2.2.1 _ HB.out) ?_); rintro e w9 ⟨rfl, hb9⟩; have hbb := HB.out.trans (hb9.mono HB.out.size); clear HB g00 g01 g02; obtain ⟨g00, g01, g02⟩ := HKP.out _ hbb; have HB : Hid _ := hbb; clear hbb hb9) | (go_at_call 111; refine (wd18 _).mono ?_; rintro e w8 ⟨rfl, rfl⟩) | (go_at_call 110; (with_reducible refine Calls.mono (pi16_ok HH.out.2.2.2.2.2.2.2.2.1 HH.out.2.2.2.2.2.2.1 HH.out.2.2.2.2.2.2.2.1 (by rw [HH.out.2.2.2.2.2.2.2.2.2]; exact HR.out) _) ?_); rintro e w9 ⟨rfl, hb9⟩; have hbb := HB.out.trans (hb9.mono HB.out.size); clear HB g00 g01 g02; have HB : Hid _ := hbb; clear hbb hb9))
          go_ret
          exact ⟨ret_b (HE.out.trans hwi.out).symm, HH.out.2.2.2.2.1.trans (HB.out.mono HH.out.2.2.2.2.1.size)⟩
        · have HR : Hid _ := hr
          have hwi : Hid (wiB 18 vz = false) := by show _ = _; simp [wiB]; omega
          clear hr
          go_wp2_with (first | (go_at_call 32; (with_reducible refine Calls.mono (HH.out.2.2.1 _ HB.out) ?_); rintro e w9 ⟨rfl, hb9⟩; have hbb := HB.out.trans (hb9.mono HB.out.size); clear HB g00 g01 g02; obtain ⟨g00, g01, g02⟩ := HKP.out _ hbb; have HB : Hid _ := hbb; clear hbb hb9) | (go_at_call 111; refine (wd18 _).mono ?_; rintro e w8 ⟨rfl, rfl⟩) | (go_at_call 110; (with_reducible refine Calls.mono (pi16_no HH.out.2.2.2.2.2.2.2.2.1 HH.out.2.2.2.2.2.2.1 HH.out.2.2.2.2.2.2.2.1 (by rw [HH.out.2.2.2.2.2.2.2.2.2]; exact HR.out) _ (HH.out.2.2.2.1 _ HB.out)) ?_); rintro e w9 ⟨x9, N9, rfl, hb9⟩; have hbb := HB.out.trans (hb9.mono HB.out.size); clear HB g00 g01 g02; have HB : Hid _ := hbb; clear hbb hb9))
          go_ret
          exact ⟨ret_b (HE.out.trans hwi.out).symm, HH.out.2.2.2.2.1.trans (HB.out.mono HH.out.2.2.2.2.1.size)⟩
      · by_cases hr : -128 ≤ vz ∧ vz ≤ 127
        · have HR : Hid _ := hr
          have hwi : Hid (wiB 19 vz = true) := by show _ = _; simp [wiB]; omega
          clear hr
          go_wp2_with (first | (go_at_call 32; (with_reducible refine Calls.mono (HH.out.2.2.1 _ HB.out) ?_); rintro e w9 ⟨rfl, hb9⟩; have hbb := HB.out.trans (hb9.mono HB.out.size); clear HB g00 g01 g02; obtain ⟨g00, g01, g02⟩ := HKP.out _ hbb; have HB : Hid _ := hbb; clear hbb hb9) | (go_at_call 111; refine (wd19 _).mono ?_; rintro e w8 ⟨rfl, rfl⟩) | (go_at_call 110; (with_reducible refine Calls.mono (pi8_ok HH.out.2.2.2.2.2.2.2.2.1 HH.out.2.2.2.2.2.2.1 HH.out.2.2.2.2.2.2.2.1 (by rw [HH.out.2.2.2.2.2.2.2.2.2]; exact HR.out) _) ?_); rintro e w9 ⟨rfl, hb9⟩; have hbb := HB.out.trans (hb9.mono HB.out.size); clear HB g00 g01 g02; have HB : Hid _ := hbb; clear hbb hb9))
          go_ret
          exact ⟨ret_b (HE.out.trans hwi.out).symm, HH.out.2.2.2.2.1.trans (HB.out.mono HH.out.2.2.2.2.1.size)⟩
        · have HR : Hid _ := hr
          have hwi : Hid (wiB 19 vz = false) := by show _ = _; simp [wiB]; omega
          clear hr
          go_wp2_with (first | (go_at_call 32; (with_reducible refine Calls.mono (HH.out.2.2.1 _ HB.out) ?_); rintro e w9 ⟨rfl, hb9⟩; have hbb := HB.out.trans (hb9.mono HB.out.size); clear HB g00 g01 g02; obtain ⟨g00, g01, g02⟩ := HKP.out _ hbb; have HB : Hid _ := hbb; clear hbb hb9) | (go_at_call 111; refine (wd19 _).mono ?_; rintro e w8 ⟨rfl, rfl⟩) | (go_at_call 110; (with_reducible refine Calls.mono (pi8_no HH.out.2.2.2.2.2.2.2.2.1 HH.out.2.2.2.2.2.2.1 HH.out.2.2.2.2.2.2.2.1 (by rw [HH.out.2.2.2.2.2.2.2.2.2]; exact HR.out) _ (HH.out.2.2.2.1 _ HB.out)) ?_); rintro e w9 ⟨x9, N9, rfl, hb9⟩; have hbb := HB.out.trans (hb9.mono HB.out.size); clear HB g00 g01 g02; have HB : Hid _ := hbb; clear hbb hb9))
          go_ret
          exact ⟨ret_b (HE.out.trans hwi.out).symm, HH.out.2.2.2.2.1.trans (HB.out.mono HH.out.2.2.2.2.1.size)⟩
      · by_cases hr : 0 ≤ vz ∧ vz ≤ 18446744073709551615
        · have HR : Hid _ := hr
          have hwi : Hid (wiB 20 vz = true) := by show _ = _; simp [wiB]; omega
          clear hr
          go_wp2_with (first | (go_at_call 32; (with_reducible refine Calls.mono (HH.out.2.2.1 _ HB.out) ?_); rintro e w9 ⟨rfl, hb9⟩; have hbb := HB.out.trans (hb9.mono HB.out.size); clear HB g00 g01 g02; obtain ⟨g00, g01, g02⟩ := HKP.out _ hbb; have HB : Hid _ := hbb; clear hbb hb9) | (go_at_call 111; refine (wd20 _).mono ?_; rintro e w8 ⟨rfl, rfl⟩) | (go_at_call 112; (with_reducible refine Calls.mono (pu64_ok HH.out.2.2.2.2.2.2.2.2.1 HH.out.2.2.2.2.2.2.1 HH.out.2.2.2.2.2.2.2.1 (by rw [HH.out.2.2.2.2.2.2.2.2.2]; exact HR.out) _) ?_); rintro e w9 ⟨x9, rfl, hb9⟩; have hbb := HB.out.trans (hb9.mono HB.out.size); clear HB g00 g01 g02; have HB : Hid _ := hbb; clear hbb hb9))
          go_ret
          exact ⟨ret_b (HE.out.trans hwi.out).symm, HH.out.2.2.2.2.1.trans (HB.out.mono HH.out.2.2.2.2.1.size)⟩
        · have HR : Hid _ := hr
          have hwi : Hid (wiB 20 vz = false) := by show _ = _; simp [wiB]; omega
          clear hr
          go_wp2_with (first | (go_at_call 32; (with_reducible refine Calls.mono (HH.out.2.2.1 _ HB.out) ?_); rintro e w9 ⟨rfl, hb9⟩; have hbb := HB.out.trans (hb9.mono HB.out.size); clear HB g00 g01 g02; obtain ⟨g00, g01, g02⟩ := HKP.out _ hbb; have HB : Hid _ := hbb; clear hbb hb9) | (go_at_call 111; refine (wd20 _).mono ?_; rintro e w8 ⟨rfl, rfl⟩) | (go_at_call 112; (with_reducible refine Calls.mono (pu64_no HH.out.2.2.2.2.2.2.2.2.1 HH.out.2.2.2.2.2.2.1 HH.out.2.2.2.2.2.2.2.1 (by rw [HH.out.2.2.2.2.2.2.2.2.2]; exact HR.out) _ (HH.out.2.2.2.1 _ HB.out)) ?_); rintro e w9 ⟨x9, N9, rfl, hb9⟩; have hbb := HB.out.trans (hb9.mono HB.out.size); clear HB g00 g01 g02; have HB : Hid _ := hbb; clear hbb hb9))
          go_ret
          exact ⟨ret_b (HE.out.trans hwi.out).symm, HH.out.2.2.2.2.1.trans (HB.out.mono HH.out.2.2.2.2.1.size)⟩
      · by_cases hr : 0 ≤ vz ∧ vz ≤ 4294967295
        · have HR : Hid _ := hr
          have hwi : Hid (wiB 21 vz = true) := by show _ = _; simp [wiB]; omega
          clear hr
          go_wp2_with (first | (go_at_call 32; (with_reducible refine Calls.mono (HH.out.2.2.1 _ HB.out) ?_); rintro e w9 ⟨rfl, hb9⟩; have hbb := HB.out.trans (hb9.mono HB.out.size); clear HB g00 g01 g02; obtain ⟨g00, g01, g02⟩ := HKP.out _ hbb; have HB : Hid _ := hbb; clear hbb hb9) | (go_at_call 111; refine (wd21 _).mono ?_; rintro e w8 ⟨rfl, rfl⟩) | (go_at_call 112; (with_reducible refine Calls.mono (pu32_ok HH.out.2.2.2.2.2.2.2.2.1 HH.out.2.2.2.2.2.2.1 HH.out.2.2.2.2.2.2.2.1 (by rw [HH.out.2.2.2.2.2.2.2.2.2]; exact HR.out) _) ?_); rintro e w9 ⟨x9, rfl, hb9⟩; have hbb := HB.out.trans (hb9.mono HB.out.size); clear HB g00 g01 g02; have HB : Hid _ := hbb; clear hbb hb9))
          go_ret
          exact ⟨ret_b (HE.out.trans hwi.out).symm, HH.out.2.2.2.2.1.trans (HB.out.mono HH.out.2.2.2.2.1.size)⟩
        · have HR : Hid _ := hr
          have hwi : Hid (wiB 21 vz = false) := by show _ = _; simp [wiB]; omega
          clear hr
          go_wp2_with (first | (go_at_call 32; (with_reducible refine Calls.mono (HH.out.2.2.1 _ HB.out) ?_); rintro e w9 ⟨rfl, hb9⟩; have hbb := HB.out.trans (hb9.mono HB.out.size); clear HB g00 g01 g02; obtain ⟨g00, g01, g02⟩ := HKP.out _ hbb; have HB : Hid _ := hbb; clear hbb hb9) | (go_at_call 111; refine (wd21 _).mono ?_; rintro e w8 ⟨rfl, rfl⟩) | (go_at_call 112; (with_reducible refine Calls.mono (pu32_no HH.out.2.2.2.2.2.2.2.2.1 HH.out.2.2.2.2.2.2.1 HH.out.2.2.2.2.2.2.2.1 (by rw [HH.out.2.2.2.2.2.2.2.2.2]; exact HR.out) _ (HH.out.2.2.2.1 _ HB.out)) ?_); rintro e w9 ⟨x9, N9, rfl, hb9⟩; have hbb := HB.out.trans (hb9.mono HB.out.size); clear HB g00 g01 g02; have HB : Hid _ := hbb; clear hbb hb9))
          go_ret
          exact ⟨ret_b (HE.out.trans hwi.out).symm, HH.out.2.2.2.2.1.trans (HB.out.mono HH.out.2.2.2.2.1.size)⟩
      · by_cases hr : 0 ≤ vz ∧ vz ≤ 65535
        · have HR : Hid _ := hr
          have hwi : Hid (wiB 22 vz = true) := by show _ = _; simp [wiB]; omega
          clear hr
          go_wp2_with (first | (go_at_call 32; (with_reducible refine Calls.mono (HH.out.2.2.1 _ HB.out) ?_); rintro e w9 ⟨rfl, hb9⟩; have hbb := HB.out.trans (hb9.mono HB.out.size); clear HB g00 g01 g02; obtain ⟨g00, g01, g02⟩ := HKP.out _ hbb; have HB : Hid _ := hbb; clear hbb hb9) | (go_at_call 111; refine (wd22 _).mono ?_; rintro e w8 ⟨rfl, rfl⟩) | (go_at_call 112; (with_reducible refine Calls.mono (pu16_ok HH.out.2.2.2.2.2.2.2.2.1 HH.out.2.2.2.2.2.2.1 HH.out.2.2.2.2.2.2.2.1 (by rw [HH.out.2.2.2.2.2.2.2.2.2]; exact HR.out) _) ?_); rintro e w9 ⟨x9, rfl, hb9⟩; have hbb := HB.out.trans (hb9.mono HB.out.size); clear HB g00 g01 g02; have HB : Hid _ := hbb; clear hbb hb9))
          go_ret
          exact ⟨ret_b (HE.out.trans hwi.out).symm, HH.out.2.2.2.2.1.trans (HB.out.mono HH.out.2.2.2.2.1.size)⟩
        · have HR : Hid _ := hr
          have hwi : Hid (wiB 22 vz = false) := by show _ = _; simp [wiB]; omega
          clear hr
          go_wp2_with (first | (go_at_call 32; (with_reducible refine Calls.mono (HH.out.2.2.1 _ HB.out) ?_); rintro e w9 ⟨rfl, hb9⟩; have hbb := HB.out.trans (hb9.mono HB.out.size); clear HB g00 g01 g02; obtain ⟨g00, g01, g02⟩ := HKP.out _ hbb; have HB : Hid _ := hbb; clear hbb hb9) | (go_at_call 111; refine (wd22 _).mono ?_; rintro e w8 ⟨rfl, rfl⟩) | (go_at_call 112; (with_reducible refine Calls.mono (pu16_no HH.out.2.2.2.2.2.2.2.2.1 HH.out.2.2.2.2.2.2.1 HH.out.2.2.2.2.2.2.2.1 (by rw [HH.out.2.2.2.2.2.2.2.2.2]; exact HR.out) _ (HH.out.2.2.2.1 _ HB.out)) ?_); rintro e w9 ⟨x9, N9, rfl, hb9⟩; have hbb := HB.out.trans (hb9.mono HB.out.size); clear HB g00 g01 g02; have HB : Hid _ := hbb; clear hbb hb9))
          go_ret
          exact ⟨ret_b (HE.out.trans hwi.out).symm, HH.out.2.2.2.2.1.trans (HB.out.mono HH.out.2.2.2.2.1.size)⟩
      · by_cases hr : 0 ≤ vz ∧ vz ≤ 255
        · have HR : Hid _ := hr
          have hwi : Hid (wiB 23 vz = true) := by show _ = _; simp [wiB]; omega
          clear hr
          go_wp2_with (first | (go_at_call 32; (with_reducible refine Calls.mono (HH.out.2.2.1 _ HB.out) ?_); rintro e w9 ⟨rfl, hb9⟩; have hbb := HB.out.trans (hb9.mono HB.out.size); clear HB g00 g01 g02; obtain ⟨g00, g01, g02⟩ := HKP.out _ hbb; have HB : Hid _ := hbb; clear hbb hb9) | (go_at_call 111; refine (wd23 _).mono ?_; rintro e w8 ⟨rfl, rfl⟩) | (go_at_call 112; (with_reducible refine Calls.mono (pu8_ok HH.out.2.2.2.2.2.2.2.2.1 HH.out.2.2.2.2.2.2.1 HH.out.2.2.2.2.2.2.2.1 (by rw [HH.out.2.2.2.2.2.2.2.2.2]; exact HR.out) _) ?_); rintro e w9 ⟨x9, rfl, hb9⟩; have hbb := HB.out.trans (hb9.mono HB.out.size); clear HB g00 g01 g02; have HB : Hid _ := hbb; clear hbb hb9))
          go_ret
          exact ⟨ret_b (HE.out.trans hwi.out).symm, HH.out.2.2.2.2.1.trans (HB.out.mono HH.out.2.2.2.2.1.size)⟩
        · have HR : Hid _ := hr
          have hwi : Hid (wiB 23 vz = false) := by show _ = _; simp [wiB]; omega
          clear hr
          go_wp2_with (first | (go_at_call 32; (with_reducible refine Calls.mono (HH.out.2.2.1 _ HB.out) ?_); rintro e w9 ⟨rfl, hb9⟩; have hbb := HB.out.trans (hb9.mono HB.out.size); clear HB g00 g01 g02; obtain ⟨g00, g01, g02⟩ := HKP.out _ hbb; have HB : Hid _ := hbb; clear hbb hb9) | (go_at_call 111; refine (wd23 _).mono ?_; rintro e w8 ⟨rfl, rfl⟩) | (go_at_call 112; (with_reducible refine Calls.mono (pu8_no HH.out.2.2.2.2.2.2.2.2.1 HH.out.2.2.2.2.2.2.1 HH.out.2.2.2.2.2.2.2.1 (by rw [HH.out.2.2.2.2.2.2.2.2.2]; exact HR.out) _ (HH.out.2.2.2.1 _ HB.out)) ?_); rintro e w9 ⟨x9, N9, rfl, hb9⟩; have hbb := HB.out.trans (hb9.mono HB.out.size); clear HB g00 g01 g02; have HB : Hid _ := hbb; clear hbb hb9))
          go_ret
          exact ⟨ret_b (HE.out.trans hwi.out).symm, HH.out.2.2.2.2.1.trans (HB.out.mono HH.out.2.2.2.2.1.size)⟩
end Go.Proofs.YtgaegajcejpmdaaGreatDoor
