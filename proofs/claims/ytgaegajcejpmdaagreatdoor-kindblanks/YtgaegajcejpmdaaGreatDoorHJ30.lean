/- Joined: HDtRa1, HDtTxt2, HDtRa2. -/
import Derived.Test.YtgaegajcejpmdaaGreatDoorHDtRd9
import Derived.Test.YtgaegajcejpmdaaGreatDoorHJ23
import Derived.Test.YtgaegajcejpmdaaGreatDoorHJ25
namespace Go.Proofs.YtgaegajcejpmdaaGreatDoor.Dt
open Go.RowKit
set_option linter.unusedVariables false

theorem eq_sn (w : World) (ad : Addr) (n c : Nat) : (binOp BinOp.eql 141 (.slice (some ad) n c) (.slice none 0 0)).run Tryz.prog w = .ok (.bool false) w := by kernel_rfl
theorem eq_nn (w : World) : (binOp BinOp.eql 141 (.slice none 0 0) (.slice none 0 0)).run Tryz.prog w = .ok (.bool true) w := by kernel_rfl
abbrev a0 (k : Int) : Mo := ⟨k, 2000, 1, 1, 0, 0, false, 0⟩
abbrev z0 : Mo := ⟨0, 0, 0, 0, 0, 0, false, 0⟩
def paG (k : Int) (l : List Int) : Option Mo := (runG (gK k) (a0 k) l).bind fun x => if x.2 = [] ∧ ¬ (x.1.s = 86400 ∧ 0 < x.1.n) then some (addM (if k = 3 then { x.1 with s := x.1.s.tmod 86400 } else x.1) ⟨0, 0, 0⟩) else none
def PaP (k : Int) (l : List Int) (w : World) (e : Ending) (w' : World) : Prop :=
  Below w.heap.size w w' ∧ e = .returned (.tuple #[moV (if 1 ≤ k ∧ k ≤ 8 then (paG k l).getD z0 else z0), .int .i64 (if 1 ≤ k ∧ k ≤ 8 then (if (paG k l).isSome then 0 else 2) else 1)])
theorem tmod_in {s : Int} (h0 : -100000000000000 < s) (h1 : s < 100000000000000) : -100000000000000 < s.tmod 86400 ∧ s.tmod 86400 < 100000000000000 := by
  have a := Int.lt_tmod_of_pos s (show (0 : Int) < 86400 by omega)
  have b := Int.tmod_lt_of_pos s (show (0 : Int) < 86400 by omega)
  omega
set_option maxHeartbeats 1000000 in
theorem parse_p (k : Int) (s : ByteArray) (w : World) (hs : s.size ≤ maxLen) : Calls Tryz.prog 62 #[.int .i64 k, .string s] w (PaP k (bl s) w) := by
  obtain ⟨x1, x2, hb0⟩ := box2 w (.cells mo0 36) (.cells (moC (a0 k)) 36)
  have H0 : Hid _ := And.intro x1 (And.intro x2 hb0)
  clear x1 x2 hb0
  go_enter Tryz.func62, Tryz.ntmps62
  go_wp2_with fail
  generalize hU : ((w.alloc (.cells mo0 36)).alloc (.cells (moC (a0 k)) 36)) = U at *
  clear hU
  refine Calls.mono (fieldsOf_p (w.heap.size + 1) (a0 k) U H0.out.2.1) ?_
  rintro e w1 ⟨hb1, hcase⟩
  dsimp only at hcase
  rcases hcase with ⟨k1, k8, B, fs, rfl, hl, hMB, hBx, hfc⟩ | ⟨hk, rfl⟩
  · have hen := eq_sn
    have x1M : w1.heap[w.heap.size + 1]? = some (.cells (moC (a0 k)) 36 (0, 0)) := (hb1.block _ (lt_of H0.out.2.1)).trans H0.out.2.1
    have hst : StM (w.heap.size + 1) (a0 k) w1 := ⟨x1M, ⟨by simp, by simp, by simp, by simp, by simp, by simp, by simp, by simp, by simp, by simp⟩⟩
    have hwh := whole_p hfc B hBx (fun q => hMB q.symm) hl w1 (a0 k) s (Fro.refl _ _) hst hs
    have HW : Hid _ := And.intro hwh (And.intro hb1 trivial)
    clear hwh hst x1M hfc hBx hb1
    generalize fs.length = n at *
    go_wp2_with fail
    refine Calls.mono HW.out.1 ?_
    rintro e w2 ⟨b, x, rfl, hfr, hst, hT, hF⟩
    have fr2 : Below w.heap.size w w2 := H0.out.2.2.trans (((Fro.below (O := fun j => j = w.heap.size + 1) HW.out.2.1).trans hfr).toBelow (Nat.le_of_lt (lt_of H0.out.1)) (fun i hi q => by omega))
    have xR : w2.heap[w.heap.size]? = some (.cells mo0 36 (0, 0)) := hfr.at ((HW.out.2.1.block _ (lt_of H0.out.1)).trans H0.out.1) (by omega)
    obtain ⟨⟨r0, r1, r2, r3, r4, r5, r6, r7⟩, t0, t1, t2, t3, t4, t5, t6, t7⟩ := blk8 xR
    obtain ⟨⟨g0, g1, g2, g3, g4, g5', g6, g7⟩, f0, f1, f2, f3, f4, f5, f6, f7⟩ := blk8 hst.x
    have HX : Hid _ := And.intro xR (And.intro fr2 (And.intro hst (And.intro hT hF)))
    have kin : 1 ≤ k ∧ k ≤ 8 := ⟨k1, k8⟩
    have hpa0 : b = false → paG k (bl s) = none := fun q => by
      unfold paG
      cases hr : runG (gK k) (a0 k) (bl s) with
      | none => rfl
      | some y => rw [Option.bind_some, if_neg (fun p => hF q y hr p.1)]
    have hpa1 : b = true → x.s = 86400 → 0 < x.n → paG k (bl s) = none := fun q p1 p2 => by
      unfold paG
      rw [hT q, Option.bind_some, if_neg (fun p => p.2 ⟨p1, p2⟩)]
    have hpa2 : b = true → ¬ (x.s = 86400 ∧ 0 < x.n) → paG k (bl s) = some (addM (if k = 3 then { x with s := x.s.tmod 86400 } else x) ⟨0, 0, 0⟩) := fun q p => by
      unfold paG
      rw [hT q, Option.bind_some, if_pos ⟨rfl, p⟩]
    have HP : Hid _ := And.intro hpa0 (And.intro hpa1 hpa2)
    clear hpa0 hpa1 hpa2 hT hF hfr xR fr2 HW hen
    obtain ⟨xk, xy, xm, xd, xs, xn, xhz, xz⟩ := x
    obtain ⟨y0, y1, m0, m1, d0, d1, s0, s1, n0, n1⟩ := hst.b
    clear hst
    dsimp only at *
    cases b
    · have HR : Hid _ := HP.out.1 rfl
      clear HP
      go_wp2_with fail
      obtain ⟨U2, hU2, hx2, hb2, _⟩ := put8 (X := w.heap.size) HX.out.2.1 (Nat.le_refl _) HX.out.1 (.int .i64 0) (.int .i64 0) (.int .i64 0) (.int .i64 0) (.int .i64 0) (.int .i64 0) (.bool false) (.int .i64 0)
      rw [hU2]
      obtain ⟨⟨q0, q1, q2, q3, q4, q5, q6, q7⟩, _⟩ := blk8 hx2
      refine bodyPost_ret (v := .tuple #[moV z0, .int .i64 2]) (by simp [results, Tryz.results62, go_sem, q0, q1, q2, q3, q4, q5, q6, q7]) rfl ⟨hb2, ?_⟩
      rw [HR.out, if_pos kin, if_pos kin]
      rfl
    · by_cases h24 : xs = 86400
      · by_cases hn0 : 0 < xn
        · have HR : Hid _ := HP.out.2.1 rfl h24 hn0
          clear HP
          subst h24
          go_wp2_with fail
          obtain ⟨U2, hU2, hx2, hb2, _⟩ := put8 (X := w.heap.size) HX.out.2.1 (Nat.le_refl _) HX.out.1 (.int .i64 0) (.int .i64 0) (.int .i64 0) (.int .i64 0) (.int .i64 0) (.int .i64 0) (.bool false) (.int .i64 0)
          rw [hU2]
          obtain ⟨⟨q0, q1, q2, q3, q4, q5, q6, q7⟩, _⟩ := blk8 hx2
          refine bodyPost_ret (v := .tuple #[moV z0, .int .i64 2]) (by simp [results, Tryz.results62, go_sem, q0, q1, q2, q3, q4, q5, q6, q7]) rfl ⟨hb2, ?_⟩
          rw [HR.out, if_pos kin, if_pos kin]
          rfl
        · have hno : ¬ (xs = 86400 ∧ 0 < xn) := fun q => hn0 q.2
          have hb24 : (xs == 86400) = true := by simpa using h24
          by_cases hk3 : k = 3
          · have HR : Hid _ := (HP.out.2.2 rfl hno).trans (by rw [if_pos hk3])
            have hbT := tmod_in s0 s1
            obtain ⟨T, hTT⟩ : ∃ T, xs.tmod 86400 = T := ⟨_, rfl⟩
            rw [hTT] at hbT HR
            obtain ⟨RR, hRR⟩ : ∃ RR, addM ⟨xk, xy, xm, xd, T, xn, xhz, xz⟩ ⟨0, 0, 0⟩ = RR := ⟨_, rfl⟩
            have hadd := fun V : World => add_p ⟨xk, xy, xm, xd, T, xn, xhz, xz⟩ ⟨0, 0, 0⟩ V ⟨y0, y1, m0, m1, d0, d1, hbT.1, hbT.2, n0, n1⟩ ⟨by simp, by simp, by simp, by simp, by simp, by simp⟩
            have hk3b : (k == 3) = true := by simpa using hk3
            have xR3 : (w2.setCell ⟨w.heap.size + 1, 4, none⟩ (.int .i64 T)).heap[w.heap.size]? = some (.cells mo0 36 (0, 0)) := (Below.heap_setCell _ _ _ _ (by simp)).trans HX.out.1
            have fr3 : Below w.heap.size w (w2.setCell ⟨w.heap.size + 1, 4, none⟩ (.int .i64 T)) := HX.out.2.1.setCell (p := ⟨w.heap.size + 1, 4, none⟩) (by simp) _
            rw [hRR] at hadd HR
            have HA : Hid _ := And.intro hadd (And.intro xR3 fr3)
            clear hadd hRR HP hno h24 hk3 xR3 fr3
            go_wp2_with fail
            refine Calls.mono (HA.out.1 _) ?_
            rintro e w3 ⟨rfl, hb3⟩
            have xR4 : w3.heap[w.heap.size]? = some (.cells mo0 36 (0, 0)) := (hb3.block _ (lt_of HA.out.2.1)).trans HA.out.2.1
            have fr4 := HA.out.2.2.trans (hb3.mono HA.out.2.2.size)
            clear r0 r1 r2 r3 r4 r5 r6 r7 t0 t1 t2 t3 t4 t5 t6 t7 g0 g1 g2 g3 g4 g5' g6 g7 f0 f1 f2 f3 f4 f5 f6 f7
            obtain ⟨⟨r0, r1, r2, r3, r4, r5, r6, r7⟩, t0, t1, t2, t3, t4, t5, t6, t7⟩ := blk8 xR4
            have HY : Hid _ := And.intro xR4 fr4
            clear xR4 fr4 hb3 HA HX
            go_wp2_with fail
            obtain ⟨U2, hU2, hx2, hb2, _⟩ := put8 (X := w.heap.size) HY.out.2 (Nat.le_refl _) HY.out.1 (.int .i64 RR.k) (.int .i64 RR.y) (.int .i64 RR.m) (.int .i64 RR.d) (.int .i64 RR.s) (.int .i64 RR.n) (.bool RR.hz) (.int .i64 RR.z)
            rw [hU2]
            obtain ⟨⟨q0, q1, q2, q3, q4, q5, q6, q7⟩, _⟩ := blk8 hx2
            refine bodyPost_ret (v := .tuple #[moV RR, .int .i64 0]) (by simp [results, Tryz.results62, go_sem, q0, q1, q2, q3, q4, q5, q6, q7]) rfl ⟨hb2, ?_⟩
            rw [HR.out, if_pos kin, if_pos kin]
            rfl
          · have HR : Hid _ := (HP.out.2.2 rfl hno).trans (by rw [if_neg hk3])
            obtain ⟨RR, hRR⟩ : ∃ RR, addM ⟨xk, xy, xm, xd, xs, xn, xhz, xz⟩ ⟨0, 0, 0⟩ = RR := ⟨_, rfl⟩
            have hadd := fun V : World => add_p ⟨xk, xy, xm, xd, xs, xn, xhz, xz⟩ ⟨0, 0, 0⟩ V ⟨y0, y1, m0, m1, d0, d1, s0, s1, n0, n1⟩ ⟨by simp, by simp, by simp, by simp, by simp, by simp⟩
            have hk3b : (k == 3) = false := by simpa using hk3
            have xR3 := HX.out.1
            have fr3 := HX.out.2.1
            rw [hRR] at hadd HR
            have HA : Hid _ := And.intro hadd (And.intro xR3 fr3)
            clear hadd hRR HP hno h24 hk3 xR3 fr3
            go_wp2_with fail
            refine Calls.mono (HA.out.1 _) ?_
            rintro e w3 ⟨rfl, hb3⟩
            have xR4 : w3.heap[w.heap.size]? = some (.cells mo0 36 (0, 0)) := (hb3.block _ (lt_of HA.out.2.1)).trans HA.out.2.1
            have fr4 := HA.out.2.2.trans (hb3.mono HA.out.2.2.size)
            clear r0 r1 r2 r3 r4 r5 r6 r7 t0 t1 t2 t3 t4 t5 t6 t7 g0 g1 g2 g3 g4 g5' g6 g7 f0 f1 f2 f3 f4 f5 f6 f7
            obtain ⟨⟨r0, r1, r2, r3, r4, r5, r6, r7⟩, t0, t1, t2, t3, t4, t5, t6, t7⟩ := blk8 xR4
            have HY : Hid _ := And.intro xR4 fr4
            clear xR4 fr4 hb3 HA HX
            go_wp2_with fail
            obtain ⟨U2, hU2, hx2, hb2, _⟩ := put8 (X := w.heap.size) HY.out.2 (Nat.le_refl _) HY.out.1 (.int .i64 RR.k) (.int .i64 RR.y) (.int .i64 RR.m) (.int .i64 RR.d) (.int .i64 RR.s) (.int .i64 RR.n) (.bool RR.hz) (.int .i64 RR.z)
            rw [hU2]
            obtain ⟨⟨q0, q1, q2, q3, q4, q5, q6, q7⟩, _⟩ := blk8 hx2
            refine bodyPost_ret (v := .tuple #[moV RR, .int .i64 0]) (by simp [results, Tryz.results62, go_sem, q0, q1, q2, q3, q4, q5, q6, q7]) rfl ⟨hb2, ?_⟩
            rw [HR.out, if_pos kin, if_pos kin]
            rfl
      · have hno : ¬ (xs = 86400 ∧ 0 < xn) := fun q => h24 q.1
        have hb24 : (xs == 86400) = false := by simpa using h24
        by_cases hk3 : k = 3
        · have HR : Hid _ := (HP.out.2.2 rfl hno).trans (by rw [if_pos hk3])
          have hbT := tmod_in s0 s1
          obtain ⟨T, hTT⟩ : ∃ T, xs.tmod 86400 = T := ⟨_, rfl⟩
          rw [hTT] at hbT HR
          obtain ⟨RR, hRR⟩ : ∃ RR, addM ⟨xk, xy, xm, xd, T, xn, xhz, xz⟩ ⟨0, 0, 0⟩ = RR := ⟨_, rfl⟩
          have hadd := fun V : World => add_p ⟨xk, xy, xm, xd, T, xn, xhz, xz⟩ ⟨0, 0, 0⟩ V ⟨y0, y1, m0, m1, d0, d1, hbT.1, hbT.2, n0, n1⟩ ⟨by simp, by simp, by simp, by simp, by simp, by simp⟩
          have hk3b : (k == 3) = true := by simpa using hk3
          have xR3 : (w2.setCell ⟨w.heap.size + 1, 4, none⟩ (.int .i64 T)).heap[w.heap.size]? = some (.cells mo0 36 (0, 0)) := (Below.heap_setCell _ _ _ _ (by simp)).trans HX.out.1
          have fr3 : Below w.heap.size w (w2.setCell ⟨w.heap.size + 1, 4, none⟩ (.int .i64 T)) := HX.out.2.1.setCell (p := ⟨w.heap.size + 1, 4, none⟩) (by simp) _
          rw [hRR] at hadd HR
          have HA : Hid _ := And.intro hadd (And.intro xR3 fr3)
          clear hadd hRR HP hno h24 hk3 xR3 fr3
          go_wp2_with fail
          refine Calls.mono (HA.out.1 _) ?_
          rintro e w3 ⟨rfl, hb3⟩
          have xR4 : w3.heap[w.heap.size]? = some (.cells mo0 36 (0, 0)) := (hb3.block _ (lt_of HA.out.2.1)).trans HA.out.2.1
          have fr4 := HA.out.2.2.trans (hb3.mono HA.out.2.2.size)
          clear r0 r1 r2 r3 r4 r5 r6 r7 t0 t1 t2 t3 t4 t5 t6 t7 g0 g1 g2 g3 g4 g5' g6 g7 f0 f1 f2 f3 f4 f5 f6 f7
          obtain ⟨⟨r0, r1, r2, r3, r4, r5, r6, r7⟩, t0, t1, t2, t3, t4, t5, t6, t7⟩ := blk8 xR4
          have HY : Hid _ := And.intro xR4 fr4
          clear xR4 fr4 hb3 HA HX
          go_wp2_with fail
          obtain ⟨U2, hU2, hx2, hb2, _⟩ := put8 (X := w.heap.size) HY.out.2 (Nat.le_refl _) HY.out.1 (.int .i64 RR.k) (.int .i64 RR.y) (.int .i64 RR.m) (.int .i64 RR.d) (.int .i64 RR.s) (.int .i64 RR.n) (.bool RR.hz) (.int .i64 RR.z)
          rw [hU2]
          obtain ⟨⟨q0, q1, q2, q3, q4, q5, q6, q7⟩, _⟩ := blk8 hx2
          refine bodyPost_ret (v := .tuple #[moV RR, .int .i64 0]) (by simp [results, Tryz.results62, go_sem, q0, q1, q2, q3, q4, q5, q6, q7]) rfl ⟨hb2, ?_⟩
          rw [HR.out, if_pos kin, if_pos kin]
          rfl
        · have HR : Hid _ := (HP.out.2.2 rfl hno).trans (by rw [if_neg hk3])
          obtain ⟨RR, hRR⟩ : ∃ RR, addM ⟨xk, xy, xm, xd, xs, xn, xhz, xz⟩ ⟨0, 0, 0⟩ = RR := ⟨_, rfl⟩
          have hadd := fun V : World => add_p ⟨xk, xy, xm, xd, xs, xn, xhz, xz⟩ ⟨0, 0, 0⟩ V ⟨y0, y1, m0, m1, d0, d1, s0, s1, n0, n1⟩ ⟨by simp, by simp, by simp, by simp, by simp, by simp⟩
          have hk3b : (k == 3) = false := by simpa using hk3
          have xR3 := HX.out.1
          have fr3 := HX.out.2.1
          rw [hRR] at hadd HR
          have HA : Hid _ := And.intro hadd (And.intro xR3 fr3)
          clear hadd hRR HP hno h24 hk3 xR3 fr3
          go_wp2_with fail
          refine Calls.mono (HA.out.1 _) ?_
          rintro e w3 ⟨rfl, hb3⟩
          have xR4 : w3.heap[w.heap.size]? = some (.cells mo0 36 (0, 0)) := (hb3.block _ (lt_of HA.out.2.1)).trans HA.out.2.1
          have fr4 := HA.out.2.2.trans (hb3.mono HA.out.2.2.size)
          clear r0 r1 r2 r3 r4 r5 r6 r7 t0 t1 t2 t3 t4 t5 t6 t7 g0 g1 g2 g3 g4 g5' g6 g7 f0 f1 f2 f3 f4 f5 f6 f7
          obtain ⟨⟨r0, r1, r2, r3, r4, r5, r6, r7⟩, t0, t1, t2, t3, t4, t5, t6, t7⟩ := blk8 xR4
          have HY : Hid _ := And.intro xR4 fr4
          clear xR4 fr4 hb3 HA HX
          go_wp2_with fail
          obtain ⟨U2, hU2, hx2, hb2, _⟩ := put8 (X := w.heap.size) HY.out.2 (Nat.le_refl _) HY.out.1 (.int .i64 RR.k) (.int .i64 RR.y) (.int .i64 RR.m) (.int .i64 RR.d) (.int .i64 RR.s) (.int .i64 RR.n) (.bool RR.hz) (.int .i64 RR.z)
          rw [hU2]
          obtain ⟨⟨q0, q1, q2, q3, q4, q5, q6, q7⟩, _⟩ := blk8 hx2
          refine bodyPost_ret (v := .tuple #[moV RR, .int .i64 0]) (by simp [results, Tryz.results62, go_sem, q0, q1, q2, q3, q4, q5, q6, q7]) rfl ⟨hb2, ?_⟩
          rw [HR.out, if_pos kin, if_pos kin]
          rfl
  · have x1R : w1.heap[w.heap.size]? = some (.cells mo0 36 (0, 0)) := (hb1.block _ (lt_of H0.out.1)).trans H0.out.1
    have fr1 : Below w.heap.size w w1 := H0.out.2.2.trans (hb1.mono H0.out.2.2.size)
    obtain ⟨⟨r0, r1, r2, r3, r4, r5, r6, r7⟩, t0, t1, t2, t3, t4, t5, t6, t7⟩ := blk8 x1R
    have hen := eq_nn
    have HX : Hid _ := And.intro x1R fr1
    clear x1R fr1 hb1
    go_wp2_with fail
    obtain ⟨U2, hU2, hx2, hb2, _⟩ := put8 (X := w.heap.size) HX.out.2 (Nat.le_refl _) HX.out.1 (.int .i64 0) (.int .i64 0) (.int .i64 0) (.int .i64 0) (.int .i64 0) (.int .i64 0) (.bool false) (.int .i64 0)
    rw [hU2]
    obtain ⟨⟨q0, q1, q2, q3, q4, q5, q6, q7⟩, _⟩ := blk8 hx2
    refine bodyPost_ret (v := .tuple #[moV z0, .int .i64 1]) (by simp [results, Tryz.results62, go_sem, q0, q1, q2, q3, q4, q5, q6, q7]) rfl ⟨hb2, ?_⟩
    rw [if_neg hk, if_neg hk]
end Go.Proofs.YtgaegajcejpmdaaGreatDoor.Dt
namespace Go.Proofs.YtgaegajcejpmdaaGreatDoor.Dt
set_option linter.unusedVariables false

theorem pow9 {n : Nat} (h : n ≤ 9) : (10 : Int) ^ n * 10 ^ (9 - n) = 1000000000 := by
  rw [← Int.pow_add, show n + (9 - n) = 9 by omega]
  decide
theorem fr_in {l : List Int} {x : Int × List Int} (h : frB l = some x) : 0 ≤ x.1 ∧ x.1 < 1000000000 := by
  unfold frB at h
  split at h
  · split at h
    · simp at h
    · rename_i hd
      obtain ⟨y, h1, rfl⟩ := Option.map_eq_some_iff.1 h
      have hb := nm_in h1
      have hp := pow9 (n := dgs l.tail) (by omega)
      have h0 : (0 : Int) < 10 ^ (9 - dgs l.tail) := Int.pow_pos (by omega)
      simp only []
      refine ⟨Int.mul_nonneg hb.1 (by omega), ?_⟩
      rw [← hp]
      exact Int.mul_lt_mul_of_pos_right hb.2 h0
  · obtain rfl := Option.some.inj h
    simp
theorem cl_in {l : List Int} {x : (Int × Int) × List Int} (h : clB l = some x) : 0 ≤ x.1.1 ∧ x.1.1 ≤ 86400 ∧ 0 ≤ x.1.2 ∧ x.1.2 < 1000000000 ∧ (x.1.1 = 86400 → x.1.2 = 0) := by
  unfold clB at h
  obtain ⟨a, ha, h⟩ := Option.bind_eq_some_iff.1 h
  obtain ⟨l1, _, h⟩ := Option.bind_eq_some_iff.1 h
  obtain ⟨b, hb, h⟩ := Option.bind_eq_some_iff.1 h
  obtain ⟨l2, _, h⟩ := Option.bind_eq_some_iff.1 h
  obtain ⟨c, hc, h⟩ := Option.bind_eq_some_iff.1 h
  obtain ⟨f, hf, h⟩ := Option.bind_eq_some_iff.1 h
  have := in_in ha
  have := in_in hb
  have := in_in hc
  have := fr_in hf
  split at h
  · simp at h
  · obtain rfl := Option.some.inj h
    simp only []
    omega
theorem zn_in {l : List Int} {x : Bool × Int} (h : znB l = some x) : -840 ≤ x.2 ∧ x.2 ≤ 840 ∧ (x.1 = false → x.2 = 0) := by
  unfold znB at h
  split at h
  · obtain rfl := Option.some.inj h; simp
  · split at h
    · split at h
      · obtain rfl := Option.some.inj h; simp
      · simp at h
    · split at h
      · obtain ⟨a, ha, h⟩ := Option.bind_eq_some_iff.1 h
        obtain ⟨l1, _, h⟩ := Option.bind_eq_some_iff.1 h
        obtain ⟨b, hb, h⟩ := Option.bind_eq_some_iff.1 h
        have := in_in ha
        have := in_in hb
        split at h
        · simp at h
        · obtain rfl := Option.some.inj h
          simp only []
          split <;> refine ⟨by omega, by omega, by simp⟩
      · simp at h
theorem ft_in {k : Int} {l : List Int} {x : Int × List Int} (h : ftB k l = some x) : x.1 ≠ 0 ∧ -1000000000 < x.1 ∧ x.1 < 1000000000 ∧ (k = 7 → x.1 = 2000) := by
  unfold ftB at h
  split at h
  · have := yr_in h
    exact ⟨this.1, this.2.1, this.2.2, by omega⟩
  · split at h
    · obtain ⟨t, _, rfl⟩ := Option.map_eq_some_iff.1 h
      simp
    · split at h
      · obtain ⟨t, _, rfl⟩ := Option.map_eq_some_iff.1 h
        simp
      · obtain rfl := Option.some.inj h
        simp
theorem mn_in {k : Int} {l : List Int} {x : Int × List Int} (h : mnB k l = some x) : 1 ≤ x.1 ∧ x.1 ≤ 12 ∧ (k = 7 → x.1 = 1) := by
  unfold mnB at h
  split at h
  · obtain ⟨t, _, h⟩ := Option.bind_eq_some_iff.1 h
    have := in_in h
    exact ⟨this.1, this.2, by omega⟩
  · obtain rfl := Option.some.inj h
    simp
theorem dy_in {k y m : Int} {l : List Int} {x : Int × List Int} (h : dyB k y m l = some x) (hm : 1 ≤ m) (hm' : m ≤ 12) (hk : k = 7 → m = 1) : 1 ≤ x.1 ∧ x.1 ≤ lenL (lnY y) m := by
  have hl := len_in (l := lnY y) hm hm'
  unfold dyB at h
  split at h
  · obtain ⟨t, _, h⟩ := Option.bind_eq_some_iff.1 h
    have := in_in h
    refine ⟨this.1, ?_⟩
    by_cases h7 : k = 7
    · rw [if_pos h7] at this
      rw [hk h7]
      have : lenL (lnY y) 1 = 31 := by unfold lenL; simp
      omega
    · rw [if_neg h7] at this
      exact this.2
  · obtain rfl := Option.some.inj h
    exact ⟨by simp, by simp only []; omega⟩
theorem ck_in {k : Int} {l : List Int} {x : (Int × Int) × List Int} (h : ckB k l = some x) : 0 ≤ x.1.1 ∧ x.1.1 ≤ 86400 ∧ 0 ≤ x.1.2 ∧ x.1.2 < 1000000000 ∧ (x.1.1 = 86400 → x.1.2 = 0) := by
  unfold ckB at h
  split at h
  · obtain ⟨t, _, h⟩ := Option.bind_eq_some_iff.1 h
    exact cl_in h
  · split at h
    · exact cl_in h
    · obtain rfl := Option.some.inj h
      simp
theorem civ_next {n l : Int} {m : Nat} {d : Int} (h : IsDay n l m d) : l ≤ civL (n + 1) ∧ civL (n + 1) ≤ l + 1 := by
  have a := h.within
  have b := (civ_is (n + 1)).within
  constructor
  · by_cases c : civL (n + 1) < l
    · have := ahd_lt c
      omega
    · omega
  · by_cases c : l + 1 < civL (n + 1)
    · have := ahd_lt c
      have := ahd_succ (l + 1)
      have := yr_two (l + 1)
      omega
    · omega
/-- A moment that was told. -/
structure Told (k : Int) (a : Mo) : Prop where
  ok : MoOk a
  k : a.k = k
  y0 : -1000000001 < a.y
  y1 : a.y < 1000000001
  z0 : -840 ≤ a.z
  z1 : a.z ≤ 840
  zn : a.hz = false → a.z = 0
theorem pr_told {k : Int} {l : List Int} {a : Mo} (h : prM k l = some a) : Told k a := by
  unfold prM at h
  obtain ⟨y, hy, h⟩ := Option.bind_eq_some_iff.1 h
  obtain ⟨m, hm, h⟩ := Option.bind_eq_some_iff.1 h
  obtain ⟨d, hd, h⟩ := Option.bind_eq_some_iff.1 h
  obtain ⟨c, hc, h⟩ := Option.bind_eq_some_iff.1 h
  obtain ⟨z, hz, rfl⟩ := Option.map_eq_some_iff.1 h
  obtain ⟨y0, y1, y2, y3⟩ := ft_in hy
  obtain ⟨m0, m1, m2⟩ := mn_in hm
  obtain ⟨d0, d1⟩ := dy_in hd m0 m1 m2
  obtain ⟨c0, c1, c2, c3, c4⟩ := ck_in hc
  obtain ⟨z0, z1, z2⟩ := zn_in hz
  clear hy hm hd hc hz h
  unfold nxM
  simp only []
  split
  · rename_i h24
    split
    · obtain ⟨mm, em⟩ : ∃ mm : Nat, m.1 = mm := ⟨m.1.toNat, by omega⟩
      have hi := civ_is (daysS y.1 m.1 d.1 + 1)
      have hday : IsDay (daysS y.1 m.1 d.1) (lnY y.1) mm d.1 := by
        rw [em] at d1 ⊢
        exact days_is (by omega) (by omega) d0 d1
      have hn := civ_next hday
      have e1 := hi.m0
      have e2 := hi.m1
      have hl : -1000000000 < lnY y.1 ∧ lnY y.1 < 1000000000 := by unfold lnY; split <;> omega
      have hbk : -1000000001 < bkY (civL (daysS y.1 m.1 d.1 + 1)) ∧ bkY (civL (daysS y.1 m.1 d.1 + 1)) < 1000000001 := by unfold bkY; split <;> omega
      exact ⟨⟨bk_ne _, by simp only []; omega, by simp only []; omega, hi.d0, by simp only []; rw [ln_bk]; exact hi.d1, by simp, by simp, c2, c3⟩, rfl, hbk.1, hbk.2, z0, z1, z2⟩
    · exact ⟨⟨y0, m0, m1, d0, d1, by simp, by simp, c2, c3⟩, rfl, by simp only []; omega, by simp only []; omega, z0, z1, z2⟩
  · rename_i h24
    exact ⟨⟨y0, m0, m1, d0, d1, c0, by simp only [] at *; omega, c2, c3⟩, rfl, by simp only []; omega, by simp only []; omega, z0, z1, z2⟩
end Go.Proofs.YtgaegajcejpmdaaGreatDoor.Dt
namespace Go.Proofs.YtgaegajcejpmdaaGreatDoor.Dt
set_option linter.unusedVariables false

theorem obind {α β : Type} {o : Option α} {f g : α → Option β} (h : ∀ x, o = some x → f x = g x) : o.bind f = o.bind g := by
  cases o with
  | none => rfl
  | some x => exact h x rfl
/-- A text that begins with a digit. -/
def Dig (l : List Int) : Prop := ∃ c, l.head? = some c ∧ isD c = true
theorem dig_ne {l : List Int} (h : Dig l) {c : Int} (hc : isD c = false) : l.head? ≠ some c := by
  obtain ⟨d, hd, hi⟩ := h
  intro q
  rw [hd] at q
  cases q
  rw [hi] at hc
  cases hc
theorem dig_nn {l : List Int} (h : Dig l) : l ≠ [] := by
  obtain ⟨d, hd, _⟩ := h
  rintro rfl
  cases hd
theorem zn_dig {a : Mo} {l : List Int} (h : Dig l) : gZn a l = none := by
  unfold gZn
  rw [if_neg (dig_nn h), if_neg (fun q => dig_ne h (c := 90) (by decide) (by rw [q]; rfl))]
  cases zR l with
  | none => rfl
  | some z => rw [Option.bind_some, if_neg (dig_ne h (by decide)), if_neg (dig_ne h (by decide))]
theorem drop_dig {l : List Int} {n : Nat} (h : n < dgs l) : Dig (l.drop n) := by
  have hl := dgs_len l
  have := dgs_get l n h
  rw [List.drop_eq_getElem_cons (by omega)]
  exact ⟨_, rfl, this⟩
/-- Years: with ten digits or more what is left begins with one. -/
theorem yr_bind (F : Mo → List Int → Option Mo) (hF : ∀ a l, Dig l → F a l = none) (a : Mo) (l : List Int) : ((gYr a l).bind fun x => F x.1 x.2) = (yrB l).bind fun y => F { a with y := y.1 } y.2 := by
  unfold gYr yrB
  have ht : (if l.head? = some 45 then l.tail else l) = yrK l := rfl
  simp only [ht]
  by_cases h9 : 9 < dgs (yrK l)
  · rw [if_pos (show dgs (yrK l) < 4 ∨ 9 < dgs (yrK l) ∨ (4 < dgs (yrK l) ∧ (yrK l).head? = some 48) from .inr (.inl h9))]
    have hk : dk 9 (yrK l) = 9 := by unfold dk; omega
    split
    · rw [Option.bind_some, hk]
      exact hF _ _ (drop_dig h9)
    · rfl
  · have hk : dk 9 (yrK l) = dgs (yrK l) := by unfold dk; omega
    have hnm : nmB (dgs (yrK l)) (yrK l) = some (dvl ((yrK l).take (dgs (yrK l))), (yrK l).drop (dgs (yrK l))) := by unfold nmB; rw [if_neg (by omega)]
    rw [hnm, Option.bind_some, hk]
    have hv := (dvl_bd (l := yrK l) (j := dgs (yrK l)) (Nat.le_refl _) (by omega)).1
    unfold yrV
    rw [hk]
    unfold yrOk
    rw [hk]
    by_cases h4 : dgs (yrK l) < 4
    · rw [if_pos (Or.inl h4), if_neg (by simp; omega)]
      rfl
    · by_cases h48 : 4 < dgs (yrK l) ∧ (yrK l).head? = some 48
      · rw [if_pos (Or.inr (Or.inr h48)), if_neg (by simp [h48])]
        rfl
      · have hno : ¬ (dgs (yrK l) < 4 ∨ 9 < dgs (yrK l) ∨ (4 < dgs (yrK l) ∧ (yrK l).head? = some 48)) := fun q => by
          rcases q with q | q | q
          · exact h4 q
          · exact h9 q
          · exact h48 q
        rw [if_neg hno]
        by_cases h0 : dvl ((yrK l).take (dgs (yrK l))) = 0
        · have hz : ¬ ((decide (4 ≤ dgs (yrK l)) && decide (0 < dvl ((yrK l).take (dgs (yrK l)))) && !(decide (4 < dgs (yrK l)) && decide ((yrK l).head? = some 48))) = true) := by simp [h0]
          rw [if_pos h0, if_neg hz]
          rfl
        · have hz : (decide (4 ≤ dgs (yrK l)) && decide (0 < dvl ((yrK l).take (dgs (yrK l)))) && !(decide (4 < dgs (yrK l)) && decide ((yrK l).head? = some 48))) = true := by
            have e1 : decide (4 ≤ dgs (yrK l)) = true := by simp; omega
            have e2 : decide (0 < dvl ((yrK l).take (dgs (yrK l)))) = true := by simp; omega
            rw [e1, e2]
            by_cases q : 4 < dgs (yrK l)
            · have e3 : decide ((yrK l).head? = some 48) = false := by simpa using fun p => h48 ⟨q, p⟩
              rw [e3]; simp
            · have e3 : decide (4 < dgs (yrK l)) = false := by simpa using q
              rw [e3]; rfl
          rw [if_neg h0, if_pos hz]
          rfl
/-- Fractions likewise. -/
theorem fr_bind (F : Mo → List Int → Option Mo) (hF : ∀ a l, Dig l → F a l = none) (a : Mo) (ha : a.n = 0) (l : List Int) : ((gFr a l).bind fun x => F x.1 x.2) = (frB l).bind fun y => F { a with n := y.1 } y.2 := by
  unfold gFr frG frB
  by_cases h46 : l.head? = some 46
  · rw [if_pos h46, if_pos h46]
    by_cases h9 : 9 < dgs l.tail
    · have hk : dk 9 l.tail = 9 := by unfold dk; omega
      rw [hk, if_neg (by omega), if_pos (Or.inr h9)]
      simp only [Option.map_some, Option.bind_some]
      rw [hF _ _ (drop_dig h9)]
      rfl
    · have hk : dk 9 l.tail = dgs l.tail := by unfold dk; omega
      rw [hk]
      by_cases h0 : dgs l.tail = 0
      · rw [if_pos h0, if_pos (Or.inl (by omega))]
        rfl
      · rw [if_neg h0, if_neg (by omega)]
        have hnm : nmB (dgs l.tail) l.tail = some (dvl (l.tail.take (dgs l.tail)), l.tail.drop (dgs l.tail)) := by unfold nmB; rw [if_neg (by omega)]
        rw [hnm]
        simp
  · rw [if_neg h46, if_neg h46]
    simp only [Option.map_some, Option.bind_some]
    have : { a with n := 0 } = a := by rw [← ha]
    rw [this]
theorem mk_bind {σ : Type} {β : Type} (c : Int) (F : σ → List Int → Option β) (a : σ) (l : List Int) : ((gMk c a l).bind fun x => F x.1 x.2) = (tkB c l).bind fun r => F a r := by
  unfold gMk tkB
  split <;> rfl
theorem mo_bind (F : Mo → List Int → Option Mo) (a : Mo) (l : List Int) : ((gMo a l).bind fun x => F x.1 x.2) = (inB 1 12 l).bind fun x => F { a with m := x.1 } x.2 := by
  unfold gMo
  cases inB 1 12 l <;> rfl
theorem dy_bind (F : Mo → List Int → Option Mo) (a : Mo) (l : List Int) : ((gDy a l).bind fun x => F x.1 x.2) = (inB 1 (lenL (lnY a.y) a.m) l).bind fun x => F { a with d := x.1 } x.2 := by
  unfold gDy
  cases inB 1 (lenL (lnY a.y) a.m) l <;> rfl
theorem ck_eq (l : List Int) : ckG l = (inB 0 24 l).bind fun h => (tkB 58 h.2).bind fun l1 => (inB 0 59 l1).bind fun m => (tkB 58 m.2).bind fun l2 => (inB 0 59 l2).bind fun s => if 3600 * h.1 + 60 * m.1 + s.1 ≤ 86400 then some (3600 * h.1 + 60 * m.1 + s.1, s.2) else none := by
  unfold ckG g5
  simp only [runG, gMk, tkB]
  cases inB 0 24 l with
  | none => rfl
  | some h =>
    simp only [Option.map_some, Option.bind_some]
    split
    · simp only [Option.bind_some]
      cases inB 0 59 h.2.tail with
      | none => rfl
      | some m =>
        simp only [Option.map_some, Option.bind_some]
        split
        · simp only [Option.bind_some]
          cases inB 0 59 m.2.tail with
          | none => rfl
          | some s => rfl
        · rfl
    · rfl
theorem ck_in' {l : List Int} {x : Int × List Int} (h : ckG l = some x) : 0 ≤ x.1 ∧ x.1 ≤ 86400 := by
  rw [ck_eq] at h
  obtain ⟨a, ha, h⟩ := Option.bind_eq_some_iff.1 h
  obtain ⟨l1, _, h⟩ := Option.bind_eq_some_iff.1 h
  obtain ⟨b, hb, h⟩ := Option.bind_eq_some_iff.1 h
  obtain ⟨l2, _, h⟩ := Option.bind_eq_some_iff.1 h
  obtain ⟨c, hc, h⟩ := Option.bind_eq_some_iff.1 h
  have := in_in ha
  have := in_in hb
  have := in_in hc
  split at h
  · cases h
    dsimp only
    omega
  · cases h
/-- A clock with its fraction. -/
theorem cl_bind (F : Mo → List Int → Option Mo) (hF : ∀ a l, Dig l → F a l = none) (h24 : ∀ a l, a.s = 86400 → 0 < a.n → F a l = none) (a : Mo) (ha : a.n = 0) (l : List Int) :
    ((gCl a l).bind fun x => (gFr x.1 x.2).bind fun y => F y.1 y.2) = (clB l).bind fun c => F { a with s := c.1.1, n := c.1.2 } c.2 := by
  have h1 : ((gCl a l).bind fun x => (gFr x.1 x.2).bind fun y => F y.1 y.2) = (ckG l).bind fun c => (frB c.2).bind fun f => F { a with s := c.1, n := f.1 } f.2 := by
    unfold gCl
    cases ckG l with
    | none => rfl
    | some c =>
      simp only [Option.map_some, Option.bind_some]
      rw [fr_bind F hF { a with s := c.1 } ha]
  rw [h1, ck_eq]
  unfold clB
  simp only [Option.bind_assoc]
  refine obind fun h hh => obind fun l1 _ => obind fun m hm => obind fun l2 _ => obind fun s hs => ?_
  have b1 := in_in hh
  have b2 := in_in hm
  have b3 := in_in hs
  by_cases hq : 3600 * h.1 + 60 * m.1 + s.1 ≤ 86400
  · rw [if_pos hq, Option.bind_some]
    refine obind fun f hf => ?_
    have b4 := fr_in hf
    by_cases hb : h.1 = 24 ∧ (0 < m.1 ∨ 0 < s.1 ∨ 0 < f.1)
    · rw [if_pos hb]
      refine h24 _ _ ?_ ?_
      · dsimp only; omega
      · dsimp only; omega
    · rw [if_neg hb]
      rfl
  · rw [if_neg hq]
    cases frB s.2 with
    | none => rfl
    | some f =>
      simp only [Option.bind_some, Option.bind_none]
      rw [if_pos (by omega)]
      rfl
end Go.Proofs.YtgaegajcejpmdaaGreatDoor.Dt
