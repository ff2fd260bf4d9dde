/- What a text tells stands within its bounds: plain. -/
import Derived.Test.YtijcbgjlofcdfaaTxt1
import Derived.Test.YtijcbgjlofcdfaaCal3
namespace Go.Proofs.Ytijcbgjlofcdfaa
set_option linter.unusedVariables false

theorem pow9 {n : Nat} (h : n ≤ 9) : (10 : Int) ^ n * 10 ^ (9 - n) = 1000000000 := by
  rw [← Int.pow_add, show n + (9 - n) = 9 by omega]
  decide
theorem fr_in {l : List Int} {x : Int × List Int} (h : frB l = some x) : 0 ≤ x.1 ∧ x.1 < 1000000000 := by
  unfold frB at h
  split at h
  · split at h
    · simp at h
    · rename_i hd
      obtain ⟨y, h1, rfl⟩ := Option.map_eq_some_iff.1 h
      have hb := nm_in h1
      have hp := pow9 (n := dgs l.tail) (by omega)
      have h0 : (0 : Int) < 10 ^ (9 - dgs l.tail) := Int.pow_pos (by omega)
      simp only []
      refine ⟨Int.mul_nonneg hb.1 (by omega), ?_⟩
      rw [← hp]
      exact Int.mul_lt_mul_of_pos_right hb.2 h0
  · obtain rfl := Option.some.inj h
    simp
theorem cl_in {l : List Int} {x : (Int × Int) × List Int} (h : clB l = some x) : 0 ≤ x.1.1 ∧ x.1.1 ≤ 86400 ∧ 0 ≤ x.1.2 ∧ x.1.2 < 1000000000 ∧ (x.1.1 = 86400 → x.1.2 = 0) := by
  unfold clB at h
  obtain ⟨a, ha, h⟩ := Option.bind_eq_some_iff.1 h
  obtain ⟨l1, _, h⟩ := Option.bind_eq_some_iff.1 h
  obtain ⟨b, hb, h⟩ := Option.bind_eq_some_iff.1 h
  obtain ⟨l2, _, h⟩ := Option.bind_eq_some_iff.1 h
  obtain ⟨c, hc, h⟩ := Option.bind_eq_some_iff.1 h
  obtain ⟨f, hf, h⟩ := Option.bind_eq_some_iff.1 h
  have := in_in ha
  have := in_in hb
  have := in_in hc
  have := fr_in hf
  split at h
  · simp at h
  · obtain rfl := Option.some.inj h
    simp only []
    omega
theorem zn_in {l : List Int} {x : Bool × Int} (h : znB l = some x) : -840 ≤ x.2 ∧ x.2 ≤ 840 ∧ (x.1 = false → x.2 = 0) := by
  unfold znB at h
  split at h
  · obtain rfl := Option.some.inj h; simp
  · split at h
    · split at h
      · obtain rfl := Option.some.inj h; simp
      · simp at h
    · split at h
      · obtain ⟨a, ha, h⟩ := Option.bind_eq_some_iff.1 h
        obtain ⟨l1, _, h⟩ := Option.bind_eq_some_iff.1 h
        obtain ⟨b, hb, h⟩ := Option.bind_eq_some_iff.1 h
        have := in_in ha
        have := in_in hb
        split at h
        · simp at h
        · obtain rfl := Option.some.inj h
          simp only []
          split <;> refine ⟨by omega, by omega, by simp⟩
      · simp at h
theorem ft_in {k : Int} {l : List Int} {x : Int × List Int} (h : ftB k l = some x) : x.1 ≠ 0 ∧ -1000000000 < x.1 ∧ x.1 < 1000000000 ∧ (k = 7 → x.1 = 2000) := by
  unfold ftB at h
  split at h
  · have := yr_in h
    exact ⟨this.1, this.2.1, this.2.2, by omega⟩
  · split at h
    · obtain ⟨t, _, rfl⟩ := Option.map_eq_some_iff.1 h
      simp
    · split at h
      · obtain ⟨t, _, rfl⟩ := Option.map_eq_some_iff.1 h
        simp
      · obtain rfl := Option.some.inj h
        simp
theorem mn_in {k : Int} {l : List Int} {x : Int × List Int} (h : mnB k l = some x) : 1 ≤ x.1 ∧ x.1 ≤ 12 ∧ (k = 7 → x.1 = 1) := by
  unfold mnB at h
  split at h
  · obtain ⟨t, _, h⟩ := Option.bind_eq_some_iff.1 h
    have := in_in h
    exact ⟨this.1, this.2, by omega⟩
  · obtain rfl := Option.some.inj h
    simp
theorem dy_in {k y m : Int} {l : List Int} {x : Int × List Int} (h : dyB k y m l = some x) (hm : 1 ≤ m) (hm' : m ≤ 12) (hk : k = 7 → m = 1) : 1 ≤ x.1 ∧ x.1 ≤ lenL (lnY y) m := by
  have hl := len_in (l := lnY y) hm hm'
  unfold dyB at h
  split at h
  · obtain ⟨t, _, h⟩ := Option.bind_eq_some_iff.1 h
    have := in_in h
    refine ⟨this.1, ?_⟩
    by_cases h7 : k = 7
    · rw [if_pos h7] at this
      rw [hk h7]
      have : lenL (lnY y) 1 = 31 := by unfold lenL; simp
      omega
    · rw [if_neg h7] at this
      exact this.2
  · obtain rfl := Option.some.inj h
    exact ⟨by simp, by simp only []; omega⟩
theorem ck_in {k : Int} {l : List Int} {x : (Int × Int) × List Int} (h : ckB k l = some x) : 0 ≤ x.1.1 ∧ x.1.1 ≤ 86400 ∧ 0 ≤ x.1.2 ∧ x.1.2 < 1000000000 ∧ (x.1.1 = 86400 → x.1.2 = 0) := by
  unfold ckB at h
  split at h
  · obtain ⟨t, _, h⟩ := Option.bind_eq_some_iff.1 h
    exact cl_in h
  · split at h
    · exact cl_in h
    · obtain rfl := Option.some.inj h
      simp
theorem civ_next {n l : Int} {m : Nat} {d : Int} (h : IsDay n l m d) : l ≤ civL (n + 1) ∧ civL (n + 1) ≤ l + 1 := by
  have a := h.within
  have b := (civ_is (n + 1)).within
  constructor
  · by_cases c : civL (n + 1) < l
    · have := ahd_lt c
      omega
    · omega
  · by_cases c : l + 1 < civL (n + 1)
    · have := ahd_lt c
      have := ahd_succ (l + 1)
      have := yr_two (l + 1)
      omega
    · omega
/-- A moment that was told. -/
structure Told (k : Int) (a : Mo) : Prop where
  ok : MoOk a
  k : a.k = k
  y0 : -1000000001 < a.y
  y1 : a.y < 1000000001
  z0 : -840 ≤ a.z
  z1 : a.z ≤ 840
  zn : a.hz = false → a.z = 0
theorem pr_told {k : Int} {l : List Int} {a : Mo} (h : prM k l = some a) : Told k a := by
  unfold prM at h
  obtain ⟨y, hy, h⟩ := Option.bind_eq_some_iff.1 h
  obtain ⟨m, hm, h⟩ := Option.bind_eq_some_iff.1 h
  obtain ⟨d, hd, h⟩ := Option.bind_eq_some_iff.1 h
  obtain ⟨c, hc, h⟩ := Option.bind_eq_some_iff.1 h
  obtain ⟨z, hz, rfl⟩ := Option.map_eq_some_iff.1 h
  obtain ⟨y0, y1, y2, y3⟩ := ft_in hy
  obtain ⟨m0, m1, m2⟩ := mn_in hm
  obtain ⟨d0, d1⟩ := dy_in hd m0 m1 m2
  obtain ⟨c0, c1, c2, c3, c4⟩ := ck_in hc
  obtain ⟨z0, z1, z2⟩ := zn_in hz
  clear hy hm hd hc hz h
  unfold nxM
  simp only []
  split
  · rename_i h24
    split
    · obtain ⟨mm, em⟩ : ∃ mm : Nat, m.1 = mm := ⟨m.1.toNat, by omega⟩
      have hi := civ_is (daysS y.1 m.1 d.1 + 1)
      have hday : IsDay (daysS y.1 m.1 d.1) (lnY y.1) mm d.1 := by
        rw [em] at d1 ⊢
        exact days_is (by omega) (by omega) d0 d1
      have hn := civ_next hday
      have e1 := hi.m0
      have e2 := hi.m1
      have hl : -1000000000 < lnY y.1 ∧ lnY y.1 < 1000000000 := by unfold lnY; split <;> omega
      have hbk : -1000000001 < bkY (civL (daysS y.1 m.1 d.1 + 1)) ∧ bkY (civL (daysS y.1 m.1 d.1 + 1)) < 1000000001 := by unfold bkY; split <;> omega
      exact ⟨⟨bk_ne _, by simp only []; omega, by simp only []; omega, hi.d0, by simp only []; rw [ln_bk]; exact hi.d1, by simp, by simp, c2, c3⟩, rfl, hbk.1, hbk.2, z0, z1, z2⟩
    · exact ⟨⟨y0, m0, m1, d0, d1, by simp, by simp, c2, c3⟩, rfl, by simp only []; omega, by simp only []; omega, z0, z1, z2⟩
  · rename_i h24
    exact ⟨⟨y0, m0, m1, d0, d1, c0, by simp only [] at *; omega, c2, c3⟩, rfl, by simp only []; omega, by simp only []; omega, z0, z1, z2⟩
end Go.Proofs.Ytijcbgjlofcdfaa
