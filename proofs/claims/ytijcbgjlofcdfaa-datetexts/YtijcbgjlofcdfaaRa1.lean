/- The program's Parse. -/
import Derived.Test.YtijcbgjlofcdfaaRd9
namespace Go.Proofs.Ytijcbgjlofcdfaa
open Go.RowKit
set_option linter.unusedVariables false

theorem eq_sn (w : World) (ad : Addr) (n c : Nat) : (binOp BinOp.eql 54 (.slice (some ad) n c) (.slice none 0 0)).run Try.prog w = .ok (.bool false) w := by kernel_rfl
theorem eq_nn (w : World) : (binOp BinOp.eql 54 (.slice none 0 0) (.slice none 0 0)).run Try.prog w = .ok (.bool true) w := by kernel_rfl
abbrev a0 (k : Int) : Mo := ⟨k, 2000, 1, 1, 0, 0, false, 0⟩
abbrev z0 : Mo := ⟨0, 0, 0, 0, 0, 0, false, 0⟩
def paG (k : Int) (l : List Int) : Option Mo := (runG (gK k) (a0 k) l).bind fun x => if x.2 = [] ∧ ¬ (x.1.s = 86400 ∧ 0 < x.1.n) then some (addM (if k = 3 then { x.1 with s := x.1.s.tmod 86400 } else x.1) ⟨0, 0, 0⟩) else none
def PaP (k : Int) (l : List Int) (w : World) (e : Ending) (w' : World) : Prop :=
  Below w.heap.size w w' ∧ e = .returned (.tuple #[moV (if 1 ≤ k ∧ k ≤ 8 then (paG k l).getD z0 else z0), .int .i64 (if 1 ≤ k ∧ k ≤ 8 then (if (paG k l).isSome then 0 else 2) else 1)])
theorem tmod_in {s : Int} (h0 : -100000000000000 < s) (h1 : s < 100000000000000) : -100000000000000 < s.tmod 86400 ∧ s.tmod 86400 < 100000000000000 := by
  have a := Int.lt_tmod_of_pos s (show (0 : Int) < 86400 by omega)
  have b := Int.tmod_lt_of_pos s (show (0 : Int) < 86400 by omega)
  omega
set_option maxHeartbeats 1000000 in
theorem parse_p (k : Int) (s : ByteArray) (w : World) (hs : s.size ≤ maxLen) : Calls Try.prog 10 #[.int .i64 k, .string s] w (PaP k (bl s) w) := by
  obtain ⟨x1, x2, hb0⟩ := box2 w (.cells mo0 24) (.cells (moC (a0 k)) 24)
  have H0 : Hid _ := And.intro x1 (And.intro x2 hb0)
  clear x1 x2 hb0
  go_enter Try.func10, Try.ntmps10
  go_wp2_with fail
  generalize hU : ((w.alloc (.cells mo0 24)).alloc (.cells (moC (a0 k)) 24)) = U at *
  clear hU
  refine Calls.mono (fieldsOf_p (w.heap.size + 1) (a0 k) U H0.out.2.1) ?_
  rintro e w1 ⟨hb1, hcase⟩
  dsimp only at hcase
  rcases hcase with ⟨k1, k8, B, fs, rfl, hl, hMB, hBx, hfc⟩ | ⟨hk, rfl⟩
  · have hen := eq_sn
    have x1M : w1.heap[w.heap.size + 1]? = some (.cells (moC (a0 k)) 24 (0, 0)) := (hb1.block _ (lt_of H0.out.2.1)).trans H0.out.2.1
    have hst : StM (w.heap.size + 1) (a0 k) w1 := ⟨x1M, ⟨by simp, by simp, by simp, by simp, by simp, by simp, by simp, by simp, by simp, by simp⟩⟩
    have hwh := whole_p hfc B hBx (fun q => hMB q.symm) hl w1 (a0 k) s (Fro.refl _ _) hst hs
    have HW : Hid _ := And.intro hwh (And.intro hb1 trivial)
    clear hwh hst x1M hfc hBx hb1
    generalize fs.length = n at *
    go_wp2_with fail
    refine Calls.mono HW.out.1 ?_
    rintro e w2 ⟨b, x, rfl, hfr, hst, hT, hF⟩
    have fr2 : Below w.heap.size w w2 := H0.out.2.2.trans (((Fro.below (O := fun j => j = w.heap.size + 1) HW.out.2.1).trans hfr).toBelow (Nat.le_of_lt (lt_of H0.out.1)) (fun i hi q => by omega))
    have xR : w2.heap[w.heap.size]? = some (.cells mo0 24 (0, 0)) := hfr.at ((HW.out.2.1.block _ (lt_of H0.out.1)).trans H0.out.1) (by omega)
    obtain ⟨⟨r0, r1, r2, r3, r4, r5, r6, r7⟩, t0, t1, t2, t3, t4, t5, t6, t7⟩ := blk8 xR
    obtain ⟨⟨g0, g1, g2, g3, g4, g5', g6, g7⟩, f0, f1, f2, f3, f4, f5, f6, f7⟩ := blk8 hst.x
    have HX : Hid _ := And.intro xR (And.intro fr2 (And.intro hst (And.intro hT hF)))
    have kin : 1 ≤ k ∧ k ≤ 8 := ⟨k1, k8⟩
    have hpa0 : b = false → paG k (bl s) = none := fun q => by
      unfold paG
      cases hr : runG (gK k) (a0 k) (bl s) with
      | none => rfl
      | some y => rw [Option.bind_some, if_neg (fun p => hF q y hr p.1)]
    have hpa1 : b = true → x.s = 86400 → 0 < x.n → paG k (bl s) = none := fun q p1 p2 => by
      unfold paG
      rw [hT q, Option.bind_some, if_neg (fun p => p.2 ⟨p1, p2⟩)]
    have hpa2 : b = true → ¬ (x.s = 86400 ∧ 0 < x.n) → paG k (bl s) = some (addM (if k = 3 then { x with s := x.s.tmod 86400 } else x) ⟨0, 0, 0⟩) := fun q p => by
      unfold paG
      rw [hT q, Option.bind_some, if_pos ⟨rfl, p⟩]
    have HP : Hid _ := And.intro hpa0 (And.intro hpa1 hpa2)
    clear hpa0 hpa1 hpa2 hT hF hfr xR fr2 HW hen
    obtain ⟨xk, xy, xm, xd, xs, xn, xhz, xz⟩ := x
    obtain ⟨y0, y1, m0, m1, d0, d1, s0, s1, n0, n1⟩ := hst.b
    clear hst
    dsimp only at *
    cases b
    · have HR : Hid _ := HP.out.1 rfl
      clear HP
      go_wp2_with fail
      obtain ⟨U2, hU2, hx2, hb2, _⟩ := put8 (X := w.heap.size) HX.out.2.1 (Nat.le_refl _) HX.out.1 (.int .i64 0) (.int .i64 0) (.int .i64 0) (.int .i64 0) (.int .i64 0) (.int .i64 0) (.bool false) (.int .i64 0)
      rw [hU2]
      obtain ⟨⟨q0, q1, q2, q3, q4, q5, q6, q7⟩, _⟩ := blk8 hx2
      refine bodyPost_ret (v := .tuple #[moV z0, .int .i64 2]) (by simp [results, Try.results10, go_sem, q0, q1, q2, q3, q4, q5, q6, q7]) rfl ⟨hb2, ?_⟩
      rw [HR.out, if_pos kin, if_pos kin]
      rfl
    · by_cases h24 : xs = 86400
      · by_cases hn0 : 0 < xn
        · have HR : Hid _ := HP.out.2.1 rfl h24 hn0
          clear HP
          subst h24
          go_wp2_with fail
          obtain ⟨U2, hU2, hx2, hb2, _⟩ := put8 (X := w.heap.size) HX.out.2.1 (Nat.le_refl _) HX.out.1 (.int .i64 0) (.int .i64 0) (.int .i64 0) (.int .i64 0) (.int .i64 0) (.int .i64 0) (.bool false) (.int .i64 0)
          rw [hU2]
          obtain ⟨⟨q0, q1, q2, q3, q4, q5, q6, q7⟩, _⟩ := blk8 hx2
          refine bodyPost_ret (v := .tuple #[moV z0, .int .i64 2]) (by simp [results, Try.results10, go_sem, q0, q1, q2, q3, q4, q5, q6, q7]) rfl ⟨hb2, ?_⟩
          rw [HR.out, if_pos kin, if_pos kin]
          rfl
        · have hno : ¬ (xs = 86400 ∧ 0 < xn) := fun q => hn0 q.2
          have hb24 : (xs == 86400) = true := by simpa using h24
          by_cases hk3 : k = 3
          · have HR : Hid _ := (HP.out.2.2 rfl hno).trans (by rw [if_pos hk3])
            have hbT := tmod_in s0 s1
            obtain ⟨T, hTT⟩ : ∃ T, xs.tmod 86400 = T := ⟨_, rfl⟩
            rw [hTT] at hbT HR
            obtain ⟨RR, hRR⟩ : ∃ RR, addM ⟨xk, xy, xm, xd, T, xn, xhz, xz⟩ ⟨0, 0, 0⟩ = RR := ⟨_, rfl⟩
            have hadd := fun V : World => add_p ⟨xk, xy, xm, xd, T, xn, xhz, xz⟩ ⟨0, 0, 0⟩ V ⟨y0, y1, m0, m1, d0, d1, hbT.1, hbT.2, n0, n1⟩ ⟨by simp, by simp, by simp, by simp, by simp, by simp⟩
            have hk3b : (k == 3) = true := by simpa using hk3
            have xR3 : (w2.setCell ⟨w.heap.size + 1, 4, none⟩ (.int .i64 T)).heap[w.heap.size]? = some (.cells mo0 24 (0, 0)) := (Below.heap_setCell _ _ _ _ (by simp)).trans HX.out.1
            have fr3 : Below w.heap.size w (w2.setCell ⟨w.heap.size + 1, 4, none⟩ (.int .i64 T)) := HX.out.2.1.setCell (p := ⟨w.heap.size + 1, 4, none⟩) (by simp) _
            rw [hRR] at hadd HR
            have HA : Hid _ := And.intro hadd (And.intro xR3 fr3)
            clear hadd hRR HP hno h24 hk3 xR3 fr3
            go_wp2_with fail
            refine Calls.mono (HA.out.1 _) ?_
            rintro e w3 ⟨rfl, hb3⟩
            have xR4 : w3.heap[w.heap.size]? = some (.cells mo0 24 (0, 0)) := (hb3.block _ (lt_of HA.out.2.1)).trans HA.out.2.1
            have fr4 := HA.out.2.2.trans (hb3.mono HA.out.2.2.size)
            clear r0 r1 r2 r3 r4 r5 r6 r7 t0 t1 t2 t3 t4 t5 t6 t7 g0 g1 g2 g3 g4 g5' g6 g7 f0 f1 f2 f3 f4 f5 f6 f7
            obtain ⟨⟨r0, r1, r2, r3, r4, r5, r6, r7⟩, t0, t1, t2, t3, t4, t5, t6, t7⟩ := blk8 xR4
            have HY : Hid _ := And.intro xR4 fr4
            clear xR4 fr4 hb3 HA HX
            go_wp2_with fail
            obtain ⟨U2, hU2, hx2, hb2, _⟩ := put8 (X := w.heap.size) HY.out.2 (Nat.le_refl _) HY.out.1 (.int .i64 RR.k) (.int .i64 RR.y) (.int .i64 RR.m) (.int .i64 RR.d) (.int .i64 RR.s) (.int .i64 RR.n) (.bool RR.hz) (.int .i64 RR.z)
            rw [hU2]
            obtain ⟨⟨q0, q1, q2, q3, q4, q5, q6, q7⟩, _⟩ := blk8 hx2
            refine bodyPost_ret (v := .tuple #[moV RR, .int .i64 0]) (by simp [results, Try.results10, go_sem, q0, q1, q2, q3, q4, q5, q6, q7]) rfl ⟨hb2, ?_⟩
            rw [HR.out, if_pos kin, if_pos kin]
            rfl
          · have HR : Hid _ := (HP.out.2.2 rfl hno).trans (by rw [if_neg hk3])
            obtain ⟨RR, hRR⟩ : ∃ RR, addM ⟨xk, xy, xm, xd, xs, xn, xhz, xz⟩ ⟨0, 0, 0⟩ = RR := ⟨_, rfl⟩
            have hadd := fun V : World => add_p ⟨xk, xy, xm, xd, xs, xn, xhz, xz⟩ ⟨0, 0, 0⟩ V ⟨y0, y1, m0, m1, d0, d1, s0, s1, n0, n1⟩ ⟨by simp, by simp, by simp, by simp, by simp, by simp⟩
            have hk3b : (k == 3) = false := by simpa using hk3
            have xR3 := HX.out.1
            have fr3 := HX.out.2.1
            rw [hRR] at hadd HR
            have HA : Hid _ := And.intro hadd (And.intro xR3 fr3)
            clear hadd hRR HP hno h24 hk3 xR3 fr3
            go_wp2_with fail
            refine Calls.mono (HA.out.1 _) ?_
            rintro e w3 ⟨rfl, hb3⟩
            have xR4 : w3.heap[w.heap.size]? = some (.cells mo0 24 (0, 0)) := (hb3.block _ (lt_of HA.out.2.1)).trans HA.out.2.1
            have fr4 := HA.out.2.2.trans (hb3.mono HA.out.2.2.size)
            clear r0 r1 r2 r3 r4 r5 r6 r7 t0 t1 t2 t3 t4 t5 t6 t7 g0 g1 g2 g3 g4 g5' g6 g7 f0 f1 f2 f3 f4 f5 f6 f7
            obtain ⟨⟨r0, r1, r2, r3, r4, r5, r6, r7⟩, t0, t1, t2, t3, t4, t5, t6, t7⟩ := blk8 xR4
            have HY : Hid _ := And.intro xR4 fr4
            clear xR4 fr4 hb3 HA HX
            go_wp2_with fail
            obtain ⟨U2, hU2, hx2, hb2, _⟩ := put8 (X := w.heap.size) HY.out.2 (Nat.le_refl _) HY.out.1 (.int .i64 RR.k) (.int .i64 RR.y) (.int .i64 RR.m) (.int .i64 RR.d) (.int .i64 RR.s) (.int .i64 RR.n) (.bool RR.hz) (.int .i64 RR.z)
            rw [hU2]
            obtain ⟨⟨q0, q1, q2, q3, q4, q5, q6, q7⟩, _⟩ := blk8 hx2
            refine bodyPost_ret (v := .tuple #[moV RR, .int .i64 0]) (by simp [results, Try.results10, go_sem, q0, q1, q2, q3, q4, q5, q6, q7]) rfl ⟨hb2, ?_⟩
            rw [HR.out, if_pos kin, if_pos kin]
            rfl
      · have hno : ¬ (xs = 86400 ∧ 0 < xn) := fun q => h24 q.1
        have hb24 : (xs == 86400) = false := by simpa using h24
        by_cases hk3 : k = 3
        · have HR : Hid _ := (HP.out.2.2 rfl hno).trans (by rw [if_pos hk3])
          have hbT := tmod_in s0 s1
          obtain ⟨T, hTT⟩ : ∃ T, xs.tmod 86400 = T := ⟨_, rfl⟩
          rw [hTT] at hbT HR
          obtain ⟨RR, hRR⟩ : ∃ RR, addM ⟨xk, xy, xm, xd, T, xn, xhz, xz⟩ ⟨0, 0, 0⟩ = RR := ⟨_, rfl⟩
          have hadd := fun V : World => add_p ⟨xk, xy, xm, xd, T, xn, xhz, xz⟩ ⟨0, 0, 0⟩ V ⟨y0, y1, m0, m1, d0, d1, hbT.1, hbT.2, n0, n1⟩ ⟨by simp, by simp, by simp, by simp, by simp, by simp⟩
          have hk3b : (k == 3) = true := by simpa using hk3
          have xR3 : (w2.setCell ⟨w.heap.size + 1, 4, none⟩ (.int .i64 T)).heap[w.heap.size]? = some (.cells mo0 24 (0, 0)) := (Below.heap_setCell _ _ _ _ (by simp)).trans HX.out.1
          have fr3 : Below w.heap.size w (w2.setCell ⟨w.heap.size + 1, 4, none⟩ (.int .i64 T)) := HX.out.2.1.setCell (p := ⟨w.heap.size + 1, 4, none⟩) (by simp) _
          rw [hRR] at hadd HR
          have HA : Hid _ := And.intro hadd (And.intro xR3 fr3)
          clear hadd hRR HP hno h24 hk3 xR3 fr3
          go_wp2_with fail
          refine Calls.mono (HA.out.1 _) ?_
          rintro e w3 ⟨rfl, hb3⟩
          have xR4 : w3.heap[w.heap.size]? = some (.cells mo0 24 (0, 0)) := (hb3.block _ (lt_of HA.out.2.1)).trans HA.out.2.1
          have fr4 := HA.out.2.2.trans (hb3.mono HA.out.2.2.size)
          clear r0 r1 r2 r3 r4 r5 r6 r7 t0 t1 t2 t3 t4 t5 t6 t7 g0 g1 g2 g3 g4 g5' g6 g7 f0 f1 f2 f3 f4 f5 f6 f7
          obtain ⟨⟨r0, r1, r2, r3, r4, r5, r6, r7⟩, t0, t1, t2, t3, t4, t5, t6, t7⟩ := blk8 xR4
          have HY : Hid _ := And.intro xR4 fr4
          clear xR4 fr4 hb3 HA HX
          go_wp2_with fail
          obtain ⟨U2, hU2, hx2, hb2, _⟩ := put8 (X := w.heap.size) HY.out.2 (Nat.le_refl _) HY.out.1 (.int .i64 RR.k) (.int .i64 RR.y) (.int .i64 RR.m) (.int .i64 RR.d) (.int .i64 RR.s) (.int .i64 RR.n) (.bool RR.hz) (.int .i64 RR.z)
          rw [hU2]
          obtain ⟨⟨q0, q1, q2, q3, q4, q5, q6, q7⟩, _⟩ := blk8 hx2
          refine bodyPost_ret (v := .tuple #[moV RR, .int .i64 0]) (by simp [results, Try.results10, go_sem, q0, q1, q2, q3, q4, q5, q6, q7]) rfl ⟨hb2, ?_⟩
          rw [HR.out, if_pos kin, if_pos kin]
          rfl
        · have HR : Hid _ := (HP.out.2.2 rfl hno).trans (by rw [if_neg hk3])
          obtain ⟨RR, hRR⟩ : ∃ RR, addM ⟨xk, xy, xm, xd, xs, xn, xhz, xz⟩ ⟨0, 0, 0⟩ = RR := ⟨_, rfl⟩
          have hadd := fun V : World => add_p ⟨xk, xy, xm, xd, xs, xn, xhz, xz⟩ ⟨0, 0, 0⟩ V ⟨y0, y1, m0, m1, d0, d1, s0, s1, n0, n1⟩ ⟨by simp, by simp, by simp, by simp, by simp, by simp⟩
          have hk3b : (k == 3) = false := by simpa using hk3
          have xR3 := HX.out.1
          have fr3 := HX.out.2.1
          rw [hRR] at hadd HR
          have HA : Hid _ := And.intro hadd (And.intro xR3 fr3)
          clear hadd hRR HP hno h24 hk3 xR3 fr3
          go_wp2_with fail
          refine Calls.mono (HA.out.1 _) ?_
          rintro e w3 ⟨rfl, hb3⟩
          have xR4 : w3.heap[w.heap.size]? = some (.cells mo0 24 (0, 0)) := (hb3.block _ (lt_of HA.out.2.1)).trans HA.out.2.1
          have fr4 := HA.out.2.2.trans (hb3.mono HA.out.2.2.size)
          clear r0 r1 r2 r3 r4 r5 r6 r7 t0 t1 t2 t3 t4 t5 t6 t7 g0 g1 g2 g3 g4 g5' g6 g7 f0 f1 f2 f3 f4 f5 f6 f7
          obtain ⟨⟨r0, r1, r2, r3, r4, r5, r6, r7⟩, t0, t1, t2, t3, t4, t5, t6, t7⟩ := blk8 xR4
          have HY : Hid _ := And.intro xR4 fr4
          clear xR4 fr4 hb3 HA HX
          go_wp2_with fail
          obtain ⟨U2, hU2, hx2, hb2, _⟩ := put8 (X := w.heap.size) HY.out.2 (Nat.le_refl _) HY.out.1 (.int .i64 RR.k) (.int .i64 RR.y) (.int .i64 RR.m) (.int .i64 RR.d) (.int .i64 RR.s) (.int .i64 RR.n) (.bool RR.hz) (.int .i64 RR.z)
          rw [hU2]
          obtain ⟨⟨q0, q1, q2, q3, q4, q5, q6, q7⟩, _⟩ := blk8 hx2
          refine bodyPost_ret (v := .tuple #[moV RR, .int .i64 0]) (by simp [results, Try.results10, go_sem, q0, q1, q2, q3, q4, q5, q6, q7]) rfl ⟨hb2, ?_⟩
          rw [HR.out, if_pos kin, if_pos kin]
          rfl
  · have x1R : w1.heap[w.heap.size]? = some (.cells mo0 24 (0, 0)) := (hb1.block _ (lt_of H0.out.1)).trans H0.out.1
    have fr1 : Below w.heap.size w w1 := H0.out.2.2.trans (hb1.mono H0.out.2.2.size)
    obtain ⟨⟨r0, r1, r2, r3, r4, r5, r6, r7⟩, t0, t1, t2, t3, t4, t5, t6, t7⟩ := blk8 x1R
    have hen := eq_nn
    have HX : Hid _ := And.intro x1R fr1
    clear x1R fr1 hb1
    go_wp2_with fail
    obtain ⟨U2, hU2, hx2, hb2, _⟩ := put8 (X := w.heap.size) HX.out.2 (Nat.le_refl _) HX.out.1 (.int .i64 0) (.int .i64 0) (.int .i64 0) (.int .i64 0) (.int .i64 0) (.int .i64 0) (.bool false) (.int .i64 0)
    rw [hU2]
    obtain ⟨⟨q0, q1, q2, q3, q4, q5, q6, q7⟩, _⟩ := blk8 hx2
    refine bodyPost_ret (v := .tuple #[moV z0, .int .i64 1]) (by simp [results, Try.results10, go_sem, q0, q1, q2, q3, q4, q5, q6, q7]) rfl ⟨hb2, ?_⟩
    rw [if_neg hk, if_neg hk]
end Go.Proofs.Ytijcbgjlofcdfaa
