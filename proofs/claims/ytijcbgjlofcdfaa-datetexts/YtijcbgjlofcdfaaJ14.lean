/- Joined: Txt2, Rr6. -/
import Derived.Test.YtijcbgjlofcdfaaTxt1
import Derived.Test.YtijcbgjlofcdfaaCal3
import Derived.Test.YtijcbgjlofcdfaaRr5
namespace Go.Proofs.Ytijcbgjlofcdfaa
set_option linter.unusedVariables false

theorem pow9 {n : Nat} (h : n ≤ 9) : (10 : Int) ^ n * 10 ^ (9 - n) = 1000000000 := by
  rw [← Int.pow_add, show n + (9 - n) = 9 by omega]
  decide
theorem fr_in {l : List Int} {x : Int × List Int} (h : frB l = some x) : 0 ≤ x.1 ∧ x.1 < 1000000000 := by
  unfold frB at h
  split at h
  · split at h
    · simp at h
    · rename_i hd
      obtain ⟨y, h1, rfl⟩ := Option.map_eq_some_iff.1 h
      have hb := nm_in h1
      have hp := pow9 (n := dgs l.tail) (by omega)
      have h0 : (0 : Int) < 10 ^ (9 - dgs l.tail) := Int.pow_pos (by omega)
      simp only []
      refine ⟨Int.mul_nonneg hb.1 (by omega), ?_⟩
      rw [← hp]
      exact Int.mul_lt_mul_of_pos_right hb.2 h0
  · obtain rfl := Option.some.inj h
    simp
theorem cl_in {l : List Int} {x : (Int × Int) × List Int} (h : clB l = some x) : 0 ≤ x.1.1 ∧ x.1.1 ≤ 86400 ∧ 0 ≤ x.1.2 ∧ x.1.2 < 1000000000 ∧ (x.1.1 = 86400 → x.1.2 = 0) := by
  unfold clB at h
  obtain ⟨a, ha, h⟩ := Option.bind_eq_some_iff.1 h
  obtain ⟨l1, _, h⟩ := Option.bind_eq_some_iff.1 h
  obtain ⟨b, hb, h⟩ := Option.bind_eq_some_iff.1 h
  obtain ⟨l2, _, h⟩ := Option.bind_eq_some_iff.1 h
  obtain ⟨c, hc, h⟩ := Option.bind_eq_some_iff.1 h
  obtain ⟨f, hf, h⟩ := Option.bind_eq_some_iff.1 h
  have := in_in ha
  have := in_in hb
  have := in_in hc
  have := fr_in hf
  split at h
  · simp at h
  · obtain rfl := Option.some.inj h
    simp only []
    omega
theorem zn_in {l : List Int} {x : Bool × Int} (h : znB l = some x) : -840 ≤ x.2 ∧ x.2 ≤ 840 ∧ (x.1 = false → x.2 = 0) := by
  unfold znB at h
  split at h
  · obtain rfl := Option.some.inj h; simp
  · split at h
    · split at h
      · obtain rfl := Option.some.inj h; simp
      · simp at h
    · split at h
      · obtain ⟨a, ha, h⟩ := Option.bind_eq_some_iff.1 h
        obtain ⟨l1, _, h⟩ := Option.bind_eq_some_iff.1 h
        obtain ⟨b, hb, h⟩ := Option.bind_eq_some_iff.1 h
        have := in_in ha
        have := in_in hb
        split at h
        · simp at h
        · obtain rfl := Option.some.inj h
          simp only []
          split <;> refine ⟨by omega, by omega, by simp⟩
      · simp at h
theorem ft_in {k : Int} {l : List Int} {x : Int × List Int} (h : ftB k l = some x) : x.1 ≠ 0 ∧ -1000000000 < x.1 ∧ x.1 < 1000000000 ∧ (k = 7 → x.1 = 2000) := by
  unfold ftB at h
  split at h
  · have := yr_in h
    exact ⟨this.1, this.2.1, this.2.2, by omega⟩
  · split at h
    · obtain ⟨t, _, rfl⟩ := Option.map_eq_some_iff.1 h
      simp
    · split at h
      · obtain ⟨t, _, rfl⟩ := Option.map_eq_some_iff.1 h
        simp
      · obtain rfl := Option.some.inj h
        simp
theorem mn_in {k : Int} {l : List Int} {x : Int × List Int} (h : mnB k l = some x) : 1 ≤ x.1 ∧ x.1 ≤ 12 ∧ (k = 7 → x.1 = 1) := by
  unfold mnB at h
  split at h
  · obtain ⟨t, _, h⟩ := Option.bind_eq_some_iff.1 h
    have := in_in h
    exact ⟨this.1, this.2, by omega⟩
  · obtain rfl := Option.some.inj h
    simp
theorem dy_in {k y m : Int} {l : List Int} {x : Int × List Int} (h : dyB k y m l = some x) (hm : 1 ≤ m) (hm' : m ≤ 12) (hk : k = 7 → m = 1) : 1 ≤ x.1 ∧ x.1 ≤ lenL (lnY y) m := by
  have hl := len_in (l := lnY y) hm hm'
  unfold dyB at h
  split at h
  · obtain ⟨t, _, h⟩ := Option.bind_eq_some_iff.1 h
    have := in_in h
    refine ⟨this.1, ?_⟩
    by_cases h7 : k = 7
    · rw [if_pos h7] at this
      rw [hk h7]
      have : lenL (lnY y) 1 = 31 := by unfold lenL; simp
      omega
    · rw [if_neg h7] at this
      exact this.2
  · obtain rfl := Option.some.inj h
    exact ⟨by simp, by simp only []; omega⟩
theorem ck_in {k : Int} {l : List Int} {x : (Int × Int) × List Int} (h : ckB k l = some x) : 0 ≤ x.1.1 ∧ x.1.1 ≤ 86400 ∧ 0 ≤ x.1.2 ∧ x.1.2 < 1000000000 ∧ (x.1.1 = 86400 → x.1.2 = 0) := by
  unfold ckB at h
  split at h
  · obtain ⟨t, _, h⟩ := Option.bind_eq_some_iff.1 h
    exact cl_in h
  · split at h
    · exact cl_in h
    · obtain rfl := Option.some.inj h
      simp
theorem civ_next {n l : Int} {m : Nat} {d : Int} (h : IsDay n l m d) : l ≤ civL (n + 1) ∧ civL (n + 1) ≤ l + 1 := by
  have a := h.within
  have b := (civ_is (n + 1)).within
  constructor
  · by_cases c : civL (n + 1) < l
    · have := ahd_lt c
      omega
    · omega
  · by_cases c : l + 1 < civL (n + 1)
    · have := ahd_lt c
      have := ahd_succ (l + 1)
      have := yr_two (l + 1)
      omega
    · omega
/-- A moment that was told. -/
structure Told (k : Int) (a : Mo) : Prop where
  ok : MoOk a
  k : a.k = k
  y0 : -1000000001 < a.y
  y1 : a.y < 1000000001
  z0 : -840 ≤ a.z
  z1 : a.z ≤ 840
  zn : a.hz = false → a.z = 0
theorem pr_told {k : Int} {l : List Int} {a : Mo} (h : prM k l = some a) : Told k a := by
  unfold prM at h
  obtain ⟨y, hy, h⟩ := Option.bind_eq_some_iff.1 h
  obtain ⟨m, hm, h⟩ := Option.bind_eq_some_iff.1 h
  obtain ⟨d, hd, h⟩ := Option.bind_eq_some_iff.1 h
  obtain ⟨c, hc, h⟩ := Option.bind_eq_some_iff.1 h
  obtain ⟨z, hz, rfl⟩ := Option.map_eq_some_iff.1 h
  obtain ⟨y0, y1, y2, y3⟩ := ft_in hy
  obtain ⟨m0, m1, m2⟩ := mn_in hm
  obtain ⟨d0, d1⟩ := dy_in hd m0 m1 m2
  obtain ⟨c0, c1, c2, c3, c4⟩ := ck_in hc
  obtain ⟨z0, z1, z2⟩ := zn_in hz
  clear hy hm hd hc hz h
  unfold nxM
  simp only []
  split
  · rename_i h24
    split
    · obtain ⟨mm, em⟩ : ∃ mm : Nat, m.1 = mm := ⟨m.1.toNat, by omega⟩
      have hi := civ_is (daysS y.1 m.1 d.1 + 1)
      have hday : IsDay (daysS y.1 m.1 d.1) (lnY y.1) mm d.1 := by
        rw [em] at d1 ⊢
        exact days_is (by omega) (by omega) d0 d1
      have hn := civ_next hday
      have e1 := hi.m0
      have e2 := hi.m1
      have hl : -1000000000 < lnY y.1 ∧ lnY y.1 < 1000000000 := by unfold lnY; split <;> omega
      have hbk : -1000000001 < bkY (civL (daysS y.1 m.1 d.1 + 1)) ∧ bkY (civL (daysS y.1 m.1 d.1 + 1)) < 1000000001 := by unfold bkY; split <;> omega
      exact ⟨⟨bk_ne _, by simp only []; omega, by simp only []; omega, hi.d0, by simp only []; rw [ln_bk]; exact hi.d1, by simp, by simp, c2, c3⟩, rfl, hbk.1, hbk.2, z0, z1, z2⟩
    · exact ⟨⟨y0, m0, m1, d0, d1, by simp, by simp, c2, c3⟩, rfl, by simp only []; omega, by simp only []; omega, z0, z1, z2⟩
  · rename_i h24
    exact ⟨⟨y0, m0, m1, d0, d1, c0, by simp only [] at *; omega, c2, c3⟩, rfl, by simp only []; omega, by simp only []; omega, z0, z1, z2⟩
end Go.Proofs.Ytijcbgjlofcdfaa
namespace Go.Proofs.Ytijcbgjlofcdfaa
open Go.RowKit
set_option linter.unusedVariables false

def FrQ (X : Nat) (s : ByteArray) (p : Nat) (b : Bool) (w : World) (e : Ending) (w' : World) : Prop :=
  ∃ (p' : Nat) (b' : Bool) (v : Int), e = .returned (.int .i64 v) ∧ RP X s b w w' p' b' ∧ 0 ≤ v ∧ v < 1000000000 ∧
    (b = false → (∀ x r, frB ((bl s).drop p) = some (x, r) → b' = false ∧ v = x ∧ r = (bl s).drop p') ∧ (frB ((bl s).drop p) = none → b' = true))
theorem fr_is (s : ByteArray) (p : Nat) : frB ((bl s).drop p) = if isB (bl s) p 46 = true then (if dgs ((bl s).drop (p + 1)) < 1 ∨ 9 < dgs ((bl s).drop (p + 1)) then none else some (dvl (((bl s).drop (p + 1)).take (dgs ((bl s).drop (p + 1)))) * 10 ^ (9 - dgs ((bl s).drop (p + 1))), (bl s).drop (p + 1 + dgs ((bl s).drop (p + 1))))) else some (0, (bl s).drop p) := by
  have h46 : (isB (bl s) p 46 = true) = (((bl s).drop p).head? = some 46) := by unfold isB; simp
  simp only [h46]
  unfold frB
  rw [List.tail_drop]
  split
  · split
    · rfl
    · unfold nmB
      rw [if_neg (Nat.lt_irrefl _), Option.map_some, List.drop_drop]
  · rfl
theorem le_pow (V : Int) (h : 0 ≤ V) (n : Nat) : V ≤ V * 10 ^ n := by
  have h1 : (1 : Int) ≤ 10 ^ n := Int.pow_pos (by omega)
  have := Int.mul_le_mul_of_nonneg_left h1 h
  omega
set_option maxHeartbeats 2000000 in
theorem fraction_r (X : Nat) (s : ByteArray) (p : Nat) (b : Bool) (w : World) (hx : RdAt w X s p b) (hs : s.size ≤ maxLen) (hp : p ≤ s.size) : Calls Try.prog 40 #[.pointer (some ⟨X, 0, none⟩)] w fun e w' => FrQ X s p b w e w' := by
  have hnum := hs
  unfold maxLen at hnum
  obtain ⟨g0, g1, g2, f0, f1, f2⟩ := hx.cells
  cases b
  · have q1 := is_r X s p false 46 w hx hs
    have hpl : isB (bl s) p 46 = true → p < s.size := fun h => by
      rcases Nat.lt_or_ge p s.size with h1 | h1
      · exact h1
      · rw [isB_no h1] at h; exact absurd h (by simp)
    have hf := fr_is s p
    generalize isB (bl s) p 46 = I at *
    have HX : Hid _ := And.intro hx (And.intro q1 hf)
    clear hx q1 hf
    cases I
    · go_enter Try.func40, Try.ntmps40
      go_wp2_with fail
      refine Calls.mono HX.out.2.1 ?_
      rintro e w1 ⟨rfl, q, rfl⟩
      go_wp2_with fail
      go_ret
      exact ⟨p, false, 0, rfl, ⟨HX.out.1, hp, (Fro.refl (fun i => i = X) w).drewN q, fun h => h⟩, by omega, by omega, fun _ => ⟨fun x r h => by rw [HX.out.2.2] at h; simp at h; exact ⟨rfl, h.1, h.2.symm⟩, fun h => by rw [HX.out.2.2] at h; simp at h⟩⟩
    · have hp1 : p + 1 ≤ s.size := hpl rfl
      go_enter Try.func40, Try.ntmps40
      go_wp2_with fail
      refine Calls.mono HX.out.2.1 ?_
      rintro e w1 ⟨rfl, q, rfl⟩
      go_upto_region 4 with fail
      obtain ⟨W, hW⟩ : ∃ W, (w.drewN q).setCell ⟨X, 1, none⟩ (.int .i64 ((p : Int) + 1)) = W := ⟨_, rfl⟩
      rw [hW]
      have hx1 : RdAt W X s (p + 1) false := by rw [← hW]; exact RdAt.at (w := w.drewN q) (X := X) (s := s) (p := p) (b := false) HX.out.1 (p + 1)
      have hfr : Fro (fun i => i = X) w W := by rw [← hW]; exact ((Fro.refl (fun i => i = X) w).drewN q).set (Or.inl rfl) _
      clear hW g0 g1 g2 f0 f1 f2
      have hY : frB ((bl s).drop p) = if dgs ((bl s).drop (p + 1)) < 1 ∨ 9 < dgs ((bl s).drop (p + 1)) then none else some (dvl (((bl s).drop (p + 1)).take (dgs ((bl s).drop (p + 1)))) * 10 ^ (9 - dgs ((bl s).drop (p + 1))), (bl s).drop (p + 1 + dgs ((bl s).drop (p + 1)))) := HX.out.2.2
      obtain ⟨P, hP⟩ : ∃ P : Nat, p + 1 = P := ⟨_, rfl⟩
      rw [hP] at hY hx1 hp1
      have q2 := digits_r X s P false W hx1 hs hp1
      have q3 := fun (W' : World) (h : RdAt W' X s P false) (h9 : dgs ((bl s).drop P) ≤ 9) => number_ok X s P (dgs ((bl s).drop P)) W' h hs hp1 h9
      unfold NmP at q3
      have hvb : dgs ((bl s).drop P) ≤ 9 → 0 ≤ dvl (((bl s).drop P).take (dgs ((bl s).drop P))) ∧ dvl (((bl s).drop P).take (dgs ((bl s).drop P))) < 1000000000 := fun h => dvl_bd (Nat.le_refl _) h
      obtain ⟨v, hv⟩ : ∃ v, dvl (((bl s).drop P).take (dgs ((bl s).drop P))) = v := ⟨_, rfl⟩
      rw [hv] at hY hvb q3
      clear hv
      have hKl := dgs_len ((bl s).drop P)
      rw [dr_len] at hKl
      generalize dgs ((bl s).drop P) = K at *
      obtain ⟨g0, g1, g2, f0, f1, f2⟩ := hx1.cells
      have HZ : Hid _ := And.intro hx1 (And.intro hfr (And.intro hY (And.intro q2 q3)))
      clear hx1 hfr hY q2 q3
      go_wp2_with fail
      refine Calls.mono HZ.out.2.2.2.1 ?_
      rintro e w2 ⟨rfl, q', rfl⟩
      by_cases c1 : K < 1
      · have d1 : decide ((K : Int) < 1) = true := by simp; omega
        have hno : frB ((bl s).drop p) = none := by rw [HZ.out.2.2.1, if_pos (.inl c1)]
        have HN : Hid _ := hno
        clear hno
        go_wp2_with fail
        go_ret
        exact ⟨P, true, 0, rfl, ⟨RdAt.bad (X := X) (s := s) (p := P) (b := false) (RdAt.drew (X := X) (s := s) (p := P) (b := false) HZ.out.1 _) true, hp1, (HZ.out.2.1.drewN _).set (Or.inl rfl) _, fun _ => rfl⟩, by omega, by omega, fun _ => ⟨fun x r h => by rw [HN.out] at h; simp at h, fun _ => rfl⟩⟩
      · have d1 : decide ((K : Int) < 1) = false := by simp; omega
        by_cases c2 : 9 < K
        · have d2 : decide (9 < (K : Int)) = true := by simp; omega
          have hno : frB ((bl s).drop p) = none := by rw [HZ.out.2.2.1, if_pos (.inr c2)]
          have HN : Hid _ := hno
          clear hno
          go_wp2_with fail
          go_ret
          exact ⟨P, true, 0, rfl, ⟨RdAt.bad (X := X) (s := s) (p := P) (b := false) (RdAt.drew (X := X) (s := s) (p := P) (b := false) HZ.out.1 _) true, hp1, (HZ.out.2.1.drewN _).set (Or.inl rfl) _, fun _ => rfl⟩, by omega, by omega, fun _ => ⟨fun x r h => by rw [HN.out] at h; simp at h, fun _ => rfl⟩⟩
        · have d2 : decide (9 < (K : Int)) = false := by simp; omega
          have hsm : frB ((bl s).drop p) = some (v * 10 ^ (9 - K), (bl s).drop (P + K)) := by rw [HZ.out.2.2.1, if_neg (by omega)]
          have hFb := fr_in hsm
          dsimp only at hFb
          obtain ⟨F, hF⟩ : ∃ F, v * 10 ^ (9 - K) = F := ⟨_, rfl⟩
          rw [hF] at hsm hFb
          obtain ⟨hF0, hF1⟩ := hFb
          have HN : Hid _ := And.intro hsm hF
          clear hsm hF
          obtain ⟨hv0, hv1⟩ := hvb (by omega)
          go_wp2_with fail
          refine Calls.mono (HZ.out.2.2.2.2 _ (RdAt.drew (X := X) (s := s) (p := P) (b := false) HZ.out.1 _) (by omega)) ?_
          rintro e w3 (⟨hd, rfl, hr⟩ | ⟨hd, rfl, hr⟩)
          · exact absurd hd (by omega)
          · have HRR : Hid _ := hr
            clear hr hd g0 g1 g2 f0 f1 f2
            go_wp2_with fail
            go_loopg [4, 5] (9 - K) (fun g v4 v5 wr => ∃ (i : Nat) (V : Int), i + g = 9 ∧ v5 = .int .i64 (i : Int) ∧ v4 = .int .i64 V ∧ 0 ≤ V ∧ V * 10 ^ (9 - i) = F ∧ wr = w3)
            case atStart => exact ⟨K, v, by omega, rfl, rfl, hv0, HN.out.2, rfl⟩
            case round =>
              obtain ⟨i, V, hig, rfl, rfl, hV0, hVF, rfl⟩ := hrel
              have hVle := le_pow V hV0 (9 - i)
              rw [hVF] at hVle
              by_cases hlt : i < 9
              · obtain ⟨g, rfl⟩ : ∃ g, gk = g + 1 := ⟨gk - 1, by omega⟩
                have k1 : decide ((i : Int) < 9) = true := by simp; omega
                have hst : 10 * V * 10 ^ (9 - (i + 1)) = F := by
                  rw [← hVF, show 9 - i = 9 - (i + 1) + 1 by omega, Int.pow_succ, Int.mul_comm 10 V, Int.mul_assoc, Int.mul_comm 10]
                have HS : Hid _ := hst
                clear hst hVF
                go_wp2_with fail
                go_roundg g
                case measure => omega
                case rel => exact ⟨i + 1, 10 * V, by omega, by simp, rfl, by omega, HS.out, rfl⟩
              · obtain rfl : i = 9 := by omega
                have hVF' : V = F := by simpa using hVF
                have HV : Hid _ := hVF'
                clear hVF hVF'
                go_wp2_with fail
                go_ret
                exact ⟨P + K, false, V, rfl, ⟨HRR.out.x, HRR.out.le, (HZ.out.2.1.drewN _).trans HRR.out.fr, fun h => h⟩, hV0, by omega, fun _ => ⟨fun x r h => by rw [HN.out.1] at h; simp at h; exact ⟨rfl, HV.out.trans h.1, h.2.symm⟩, fun h => by rw [HN.out.1] at h; simp at h⟩⟩
  · have HX : Hid _ := hx
    clear hx
    go_enter Try.func40, Try.ntmps40
    go_wp2_with fail
    go_ret
    exact ⟨p, true, 0, rfl, ⟨HX.out, hp, Fro.refl _ _, fun _ => rfl⟩, by omega, by omega, fun h => absurd h (by simp)⟩
end Go.Proofs.Ytijcbgjlofcdfaa
