/- Moments and spans: what the laws ask, plain. -/
import Derived.Test.YtijcbgjlofcdfaaCal2
namespace Go.Proofs.Ytijcbgjlofcdfaa
set_option linter.unusedVariables false

theorem days_norm (y m d : Int) : daysS (bkY (lnY y + (m - 1) / 12)) ((m - 1) % 12 + 1) d = daysS y m d := by
  unfold daysS
  rw [ln_bk, show ((m - 1) % 12 + 1 - 1) / 12 = 0 by omega, show ((m - 1) % 12 + 1 - 1) % 12 = (m - 1) % 12 by omega, Int.add_zero]
theorem civ_days {l o d : Int} (h0 : 1 ≤ o) (h1 : o ≤ 12) (d0 : 1 ≤ d) (d1 : d ≤ lenL l o) : civL (daysS (bkY l) o d) = l ∧ ((civM (daysS (bkY l) o d) : Nat) : Int) = o ∧ civD (daysS (bkY l) o d) = d := by
  obtain ⟨m, rfl⟩ : ∃ m : Nat, o = m := ⟨o.toNat, by omega⟩
  have h := days_is (y := bkY l) (m := m) (d := d) (by omega) (by omega) d0 (by rw [ln_bk]; exact d1)
  rw [ln_bk] at h
  obtain ⟨a, b, c⟩ := civ_of h
  exact ⟨a, by rw [b], c⟩
theorem add_form {a : Mo} {p : Sp} {k : Int} (d0 : 1 ≤ addC a p) (hk : addT a p / 86400 = 0) : addM a p = ⟨a.k, bkY (addL a p), addO a p, addC a p, addT a p, (a.n + p.n) % 1000000000, a.hz, a.z⟩ := by
  have hO : 1 ≤ addO a p ∧ addO a p ≤ 12 := by unfold addO; omega
  have hC : addC a p ≤ lenL (addL a p) (addO a p) := by unfold addC; split <;> omega
  have hN : addN a p = daysS (bkY (addL a p)) (addO a p) (addC a p) := by unfold addN; omega
  obtain ⟨e1, e2, e3⟩ := civ_days hO.1 hO.2 d0 hC
  unfold addM
  rw [hN, e1, e2, e3, show addT a p % 86400 = addT a p by omega]
/-- A moment's day stands in its month, its second in its day. -/
structure MoOk (a : Mo) : Prop where
  y : a.y ≠ 0
  m0 : 1 ≤ a.m
  m1 : a.m ≤ 12
  d0 : 1 ≤ a.d
  d1 : a.d ≤ lenL (lnY a.y) a.m
  s0 : 0 ≤ a.s
  s1 : a.s < 86400
  n0 : 0 ≤ a.n
  n1 : a.n < 1000000000
theorem MoOk.add (a : Mo) (p : Sp) : MoOk (addM a p) := by
  have h := civ_is (addN a p)
  have := h.m0
  have := h.m1
  unfold addM
  exact ⟨bk_ne _, by simp only []; omega, by simp only []; omega, h.d0, by simp only []; rw [ln_bk]; exact h.d1, by simp only []; omega, by simp only []; omega, by simp only []; omega, by simp only []; omega⟩
/-- Seconds and days are one row. -/
theorem add_days {a : Mo} (h : MoOk a) (k : Int) : (addM a ⟨0, 86400 * k, 0⟩).s = a.s ∧ (addM a ⟨0, 86400 * k, 0⟩).n = a.n ∧ daysS (addM a ⟨0, 86400 * k, 0⟩).y (addM a ⟨0, 86400 * k, 0⟩).m (addM a ⟨0, 86400 * k, 0⟩).d = daysS a.y a.m a.d + k := by
  obtain ⟨h1, h2, h3, h4⟩ := add_same (s := 86400 * k) (n := 0) h.y h.m0 h.m1 h.d1
  have hT : addT a ⟨0, 86400 * k, 0⟩ = a.s + 86400 * k := by
    have := h.n0
    have := h.n1
    unfold addT
    simp only []
    omega
  have := h.s0
  have := h.s1
  have := h.n0
  have := h.n1
  refine ⟨?_, ?_, ?_⟩
  · simp only [addM]; rw [hT]; omega
  · simp only [addM]; omega
  · simp only [addM]; rw [days_civ]; unfold addN; rw [h4, h2, h3, hT]; omega
/-- What stands on the same day at the same second is the same. -/
theorem mo_ext {a b : Mo} (ha : MoOk a) (hb : MoOk b) (hk : a.k = b.k) (hd : daysS a.y a.m a.d = daysS b.y b.m b.d) (hs : a.s = b.s) (hn : a.n = b.n) (hz : a.hz = b.hz) (hz' : a.z = b.z) : a = b := by
  have x := civ_days (l := lnY a.y) ha.m0 ha.m1 ha.d0 ha.d1
  have y := civ_days (l := lnY b.y) hb.m0 hb.m1 hb.d0 hb.d1
  rw [bk_ln ha.y] at x
  rw [bk_ln hb.y] at y
  rw [hd] at x
  have ey : a.y = b.y := by
    have := x.1.symm.trans y.1
    rw [← bk_ln ha.y, this, bk_ln hb.y]
  have em := x.2.1.symm.trans y.2.1
  have ed := x.2.2.symm.trans y.2.2
  cases a
  cases b
  simp_all
theorem add_back {a : Mo} (h : MoOk a) (k : Int) : addM (addM a ⟨0, 86400 * k, 0⟩) ⟨0, -(86400 * k), 0⟩ = a := by
  obtain ⟨p1, p2, p3⟩ := add_days h k
  have q := add_days (MoOk.add a ⟨0, 86400 * k, 0⟩) (-k)
  rw [show 86400 * -k = -(86400 * k) by omega] at q
  obtain ⟨q1, q2, q3⟩ := q
  exact mo_ext (MoOk.add _ _) h rfl (by rw [q3, p3]; omega) (by rw [q1, p1]) (by rw [q2, p2]) rfl rfl
/-- Months go by the calendar. -/
theorem add_months {a : Mo} (h : MoOk a) (h28 : a.d ≤ 28) (o : Int) : addM a ⟨o, 0, 0⟩ = ⟨a.k, bkY (lnY a.y + (a.m - 1 + o) / 12), (a.m - 1 + o) % 12 + 1, a.d, a.s, a.n, a.hz, a.z⟩ := by
  have hT : addT a ⟨o, 0, 0⟩ = a.s := by
    have := h.n0
    have := h.n1
    unfold addT
    simp only []
    omega
  have hC : addC a ⟨o, 0, 0⟩ = a.d := by
    have := (len_in (l := addL a ⟨o, 0, 0⟩) (m := addO a ⟨o, 0, 0⟩) (by unfold addO; omega) (by unfold addO; omega)).1
    unfold addC
    rw [if_neg (by omega)]
  have := h.s0
  have := h.s1
  have := h.n0
  have := h.n1
  rw [add_form (k := 0) (by rw [hC]; exact h.d0) (by rw [hT]; omega), hC, hT]
  unfold addL addO
  simp only []
  rw [show (a.n + 0) % 1000000000 = a.n by omega]
theorem days_months {a : Mo} (h : MoOk a) (h28 : a.d ≤ 28) (o : Int) : daysS (addM a ⟨o, 0, 0⟩).y (addM a ⟨o, 0, 0⟩).m (addM a ⟨o, 0, 0⟩).d = daysS a.y (a.m + o) a.d := by
  rw [add_months h h28]
  simp only []
  rw [← days_norm a.y (a.m + o) a.d, show a.m + o - 1 = a.m - 1 + o by omega]
theorem months_back {a : Mo} (h : MoOk a) (h28 : a.d ≤ 28) (o : Int) : addM (addM a ⟨o, 0, 0⟩) ⟨-o, 0, 0⟩ = a := by
  have e := add_months h h28 o
  have hc := MoOk.add a ⟨o, 0, 0⟩
  have d28 : (addM a ⟨o, 0, 0⟩).d ≤ 28 := by rw [e]; exact h28
  rw [add_months hc d28, e]
  simp only []
  rw [ln_bk]
  have := h.m0
  have := h.m1
  rw [show lnY a.y + (a.m - 1 + o) / 12 + ((a.m - 1 + o) % 12 + 1 - 1 + -o) / 12 = lnY a.y by omega, show ((a.m - 1 + o) % 12 + 1 - 1 + -o) % 12 + 1 = a.m by omega, bk_ln h.y]
theorem cmp_eq {a b : Mo} (hk : a.k = b.k) (hz : a.hz = b.hz) : cmpM a b = ordS (linS a a.z) a.n (linS b b.z) b.n := by
  unfold cmpM
  rw [if_neg (by simpa using hk), if_pos hz]
theorem cmp_mix {a b : Mo} (hk : a.k = b.k) (ha : a.hz = true) (hb : b.hz = false) : cmpM a b = mixS a b := by
  unfold cmpM
  rw [if_neg (by simpa using hk), if_neg (by rw [ha, hb]; simp), if_pos ha]
/-- A moment put to another zone is the same. -/
theorem zone_same {a : Mo} (h : MoOk a) (hn : a.n = 0) (hz : a.hz = true) (h0 : a.z = 0) (z : Int) : cmpM a { addM a ⟨0, 60 * z, 0⟩ with z := z } = 0 := by
  obtain ⟨h1, h2, h3, h4⟩ := add_same (s := 60 * z) (n := 0) h.y h.m0 h.m1 h.d1
  have e := lin_add a ⟨0, 60 * z, 0⟩ z
  rw [h4, h2, h3] at e
  have hT : addT a ⟨0, 60 * z, 0⟩ = a.s + 60 * z := by unfold addT; simp only []; omega
  have e' : linS { addM a ⟨0, 60 * z, 0⟩ with z := z } z = linS a a.z := by
    have : linS { addM a ⟨0, 60 * z, 0⟩ with z := z } z = linS (addM a ⟨0, 60 * z, 0⟩) z := rfl
    rw [this, e, hT, h0]
    unfold linS
    omega
  refine Eq.trans (cmp_eq ?_ ?_) ?_
  · rfl
  · rfl
  show ordS (linS a a.z) a.n (linS { addM a ⟨0, 60 * z, 0⟩ with z := z } z) ((a.n + 0) % 1000000000) = 0
  rw [e', hn]
  exact ord_refl _ _
theorem zone_none {a : Mo} (h : MoOk a) (hn : a.n = 0) (hz : a.hz = true) (h0 : a.z = 0) (z : Int) (z0 : -840 ≤ z) (z1 : z ≤ 840) : cmpM a { addM a ⟨0, 60 * z, 0⟩ with hz := false, z := 0 } = 2 := by
  obtain ⟨h1, h2, h3, h4⟩ := add_same (s := 60 * z) (n := 0) h.y h.m0 h.m1 h.d1
  have e := lin_add a ⟨0, 60 * z, 0⟩
  rw [h4, h2, h3] at e
  have hT : addT a ⟨0, 60 * z, 0⟩ = a.s + 60 * z := by unfold addT; simp only []; omega
  have e' : ∀ u, linS { addM a ⟨0, 60 * z, 0⟩ with hz := false, z := 0 } u = linS a a.z + 60 * z - 60 * u := by
    intro u
    have : linS { addM a ⟨0, 60 * z, 0⟩ with hz := false, z := 0 } u = linS (addM a ⟨0, 60 * z, 0⟩) u := rfl
    rw [this, e, hT, h0]
    unfold linS
    omega
  refine Eq.trans (cmp_mix ?_ hz ?_) ?_
  · rfl
  · rfl
  have en : ({ addM a ⟨0, 60 * z, 0⟩ with hz := false, z := 0 } : Mo).n = 0 := by
    show (a.n + 0) % 1000000000 = 0
    omega
  unfold mixS
  rw [e', e', en, hn]
  generalize linS a a.z = L
  rw [if_neg]
  rintro ⟨c1, c2⟩
  have a1 : ordS L 0 (L + 60 * z - 60 * 840) 0 = 0 ∨ ordS L 0 (L + 60 * z - 60 * 840) 0 = 1 := by
    unfold ordS
    rw [if_neg (by omega)]
    split <;> simp
  have a2 : ordS L 0 (L + 60 * z - 60 * -840) 0 = 0 ∨ ordS L 0 (L + 60 * z - 60 * -840) 0 = -1 := by
    unfold ordS
    split
    · simp
    · rw [if_pos (by omega)]; simp
  omega
theorem later_less {a : Mo} (h : MoOk a) (hn : a.n = 0) : cmpM a (addM a ⟨0, 0, 1⟩) = -1 := by
  obtain ⟨h1, h2, h3, h4⟩ := add_same (s := 0) (n := 1) h.y h.m0 h.m1 h.d1
  have e := lin_add a ⟨0, 0, 1⟩ a.z
  rw [h4, h2, h3] at e
  have hT : addT a ⟨0, 0, 1⟩ = a.s := by unfold addT; simp only []; omega
  have e' : linS (addM a ⟨0, 0, 1⟩) a.z = linS a a.z := by rw [e, hT]; rfl
  refine Eq.trans (cmp_eq ?_ ?_) ?_
  · rfl
  · rfl
  show ordS (linS a a.z) a.n (linS (addM a ⟨0, 0, 1⟩) a.z) ((a.n + 1) % 1000000000) = -1
  rw [e', hn]
  unfold ordS
  rw [if_pos (by omega)]
end Go.Proofs.Ytijcbgjlofcdfaa
