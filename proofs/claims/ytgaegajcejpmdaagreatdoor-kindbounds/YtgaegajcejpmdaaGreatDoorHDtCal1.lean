/- The calendar: plain. -/
namespace Go.Proofs.YtgaegajcejpmdaaGreatDoor.Dt
set_option linter.unusedVariables false

/-- A year as a row's number without a gap, and back. -/
def lnY (y : Int) : Int := if y < 0 then y + 1 else y
def bkY (l : Int) : Int := if l ≤ 0 then l - 1 else l
theorem ln_bk (l : Int) : lnY (bkY l) = l := by unfold lnY bkY; repeat' split <;> omega
theorem bk_ln {y : Int} (h : y ≠ 0) : bkY (lnY y) = y := by unfold lnY bkY; repeat' split <;> omega
theorem bk_ne (l : Int) : bkY l ≠ 0 := by unfold bkY; split <;> omega
theorem bk_inj {a b : Int} (h : bkY a = bkY b) : a = b := by rw [← ln_bk a, h, ln_bk]

/-- Leap years, of a row's number. -/
def lpL (l : Int) : Bool := l % 4 == 0 && (l % 100 != 0 || l % 400 == 0)
theorem lp_true {l : Int} : lpL l = true ↔ l % 4 = 0 ∧ (l % 100 ≠ 0 ∨ l % 400 = 0) := by unfold lpL; simp
theorem lp_false {l : Int} : lpL l = false ↔ ¬ (l % 4 = 0 ∧ (l % 100 ≠ 0 ∨ l % 400 = 0)) := by rw [← lp_true]; simp
def yrL (l : Int) : Int := if lpL l then 366 else 365
theorem yr_two (l : Int) : yrL l = 365 ∨ yrL l = 366 := by unfold yrL; split <;> simp
/-- The days of the years ahead. -/
def ahd (l : Int) : Int := 365 * l + (l + 3) / 4 - (l + 99) / 100 + (l + 399) / 400
theorem ahd_succ (l : Int) : ahd (l + 1) = ahd l + yrL l := by
  unfold ahd yrL
  split
  · rename_i h
    rw [lp_true] at h
    omega
  · rename_i h
    have h : lpL l = false := by simpa using h
    rw [lp_false] at h
    omega
theorem ahd_cycle (l k : Int) : ahd (l + 400 * k) = ahd l + 146097 * k := by unfold ahd; omega
theorem lp_cycle (l k : Int) : lpL (l + 400 * k) = lpL l := by
  unfold lpL
  rw [show (l + 400 * k) % 4 = l % 4 by omega, show (l + 400 * k) % 100 = l % 100 by omega, show (l + 400 * k) % 400 = l % 400 by omega]
theorem ahd_grow (l : Int) (k : Nat) : ahd l + 365 * k ≤ ahd (l + k) := by
  induction k with
  | zero => simp
  | succ k ih =>
    have := ahd_succ (l + k)
    rw [show l + ((k + 1 : Nat) : Int) = l + k + 1 by omega, this]
    rcases yr_two (l + k) with h | h <;> omega
theorem ahd_lt {l m : Int} (h : l < m) : ahd (l + 1) ≤ ahd m := by
  obtain ⟨k, rfl⟩ : ∃ k : Nat, m = l + 1 + k := ⟨(m - (l + 1)).toNat, by omega⟩
  have := ahd_grow (l + 1) k
  omega

/-- A month's length, of a row's number. -/
def lenL (l m : Int) : Int := if m = 2 then (if lpL l then 29 else 28) else if m = 4 ∨ m = 6 ∨ m = 9 ∨ m = 11 then 30 else if 1 ≤ m ∧ m ≤ 12 then 31 else 0
theorem len_in {l m : Int} (h : 1 ≤ m) (h' : m ≤ 12) : 28 ≤ lenL l m ∧ lenL l m ≤ 31 := by unfold lenL; repeat' split <;> omega
theorem len_cycle (l m k : Int) : lenL (l + 400 * k) m = lenL l m := by unfold lenL; rw [lp_cycle]
/-- The days of the months ahead. -/
def cum (l : Int) : Nat → Int
  | 0 => 0
  | k + 1 => cum l k + lenL l ((k : Int) + 1)
theorem cum_twelve (l : Int) : cum l 12 = yrL l := by
  simp [cum, lenL, yrL]
  split <;> rfl
theorem len_nonneg (l m : Int) : 0 ≤ lenL l m := by unfold lenL; repeat' split <;> omega
theorem cum_mono (l : Int) {a b : Nat} (h : a ≤ b) : cum l a ≤ cum l b := by
  induction h with
  | refl => exact Int.le_refl _
  | step _ ih => simp only [cum]; exact Int.le_trans ih (by have := len_nonneg l; exact Int.le_add_of_nonneg_right (this _))
theorem cum_nonneg (l : Int) (a : Nat) : 0 ≤ cum l a := cum_mono l (Nat.zero_le a)
theorem cum_le (l : Int) {a : Nat} (h : a ≤ 12) : cum l a ≤ 366 := by
  have := cum_mono l h
  rw [cum_twelve] at this
  rcases yr_two l with e | e <;> omega
/-- The number of a day: l a row's number, m a month from 1 on, d a day from 1 on. -/
def dayN (l : Int) (m : Nat) (d : Int) : Int := ahd l - ahd 2000 + cum l (m - 1) + d - 1
/-- P602's count of any numbers. -/
def daysS (y m d : Int) : Int := dayN (lnY y + (m - 1) / 12) (((m - 1) % 12).toNat + 1) d
/-- The day of this number: it is the one. -/
structure IsDay (n l : Int) (m : Nat) (d : Int) : Prop where
  m0 : 1 ≤ m
  m1 : m ≤ 12
  d0 : 1 ≤ d
  d1 : d ≤ lenL l m
  at_ : dayN l m d = n
theorem IsDay.within {n l : Int} {m : Nat} {d : Int} (h : IsDay n l m d) : ahd l - ahd 2000 ≤ n ∧ n < ahd (l + 1) - ahd 2000 := by
  obtain ⟨m0, m1, d0, d1, rfl⟩ := h
  have a := cum_nonneg l (m - 1)
  have b := cum_mono l (show m ≤ 12 by omega)
  obtain ⟨k, rfl⟩ : ∃ k, m = k + 1 := ⟨m - 1, by omega⟩
  rw [cum_twelve] at b
  have c := ahd_succ l
  simp only [cum] at b
  have d1' : d ≤ lenL l ((k : Int) + 1) := by simpa using d1
  simp only [dayN, Nat.add_sub_cancel] at a ⊢
  omega
theorem IsDay.uniq {n l l' : Int} {m m' : Nat} {d d' : Int} (h : IsDay n l m d) (h' : IsDay n l' m' d') : l = l' ∧ m = m' ∧ d = d' := by
  have e : l = l' := by
    have w := h.within
    have w' := h'.within
    by_cases c : l < l'
    · have := ahd_lt c
      omega
    · by_cases c' : l' < l
      · have := ahd_lt c'
        omega
      · omega
  subst e
  obtain ⟨m0, m1, d0, d1, rfl⟩ := h
  obtain ⟨m0', m1', d0', d1', e⟩ := h'
  obtain ⟨k, rfl⟩ : ∃ k, m = k + 1 := ⟨m - 1, by omega⟩
  obtain ⟨k', rfl⟩ : ∃ k, m' = k + 1 := ⟨m' - 1, by omega⟩
  simp only [dayN, Nat.add_sub_cancel] at e
  have d2 : d ≤ lenL l ((k : Int) + 1) := by simpa using d1
  have d2' : d' ≤ lenL l ((k' : Int) + 1) := by simpa using d1'
  have ek : k = k' := by
    by_cases c : k < k'
    · have := cum_mono l (show k + 1 ≤ k' from c)
      simp only [cum] at this
      omega
    · by_cases c' : k' < k
      · have := cum_mono l (show k' + 1 ≤ k from c')
        simp only [cum] at this
        omega
      · omega
  subst ek
  exact ⟨rfl, rfl, by omega⟩
/-- A day that stands in a month bears its number. -/
theorem days_is {y : Int} {m : Nat} {d : Int} (m0 : 1 ≤ m) (m1 : m ≤ 12) (d0 : 1 ≤ d) (d1 : d ≤ lenL (lnY y) m) : IsDay (daysS y m d) (lnY y) m d := by
  refine ⟨m0, m1, d0, d1, ?_⟩
  unfold daysS
  rw [show ((m : Int) - 1) / 12 = 0 by omega, show (((m : Int) - 1) % 12).toNat + 1 = m by omega, Int.add_zero]
theorem days_day (y m d k : Int) : daysS y m (d + k) = daysS y m d + k := by unfold daysS dayN; omega
/-- A year's days. -/
theorem days_year (y : Int) : daysS y 13 1 - daysS y 1 1 = yrL (lnY y) := by
  have := ahd_succ (lnY y)
  unfold daysS dayN
  simp [cum]
  omega
theorem cum_near (l l' : Int) : ∀ a : Nat, cum l a ≤ cum l' a + 1
  | 0 => by simp [cum]
  | 1 => by simp [cum, lenL]
  | a + 2 => by
    have key : ∀ b : Nat, 2 ≤ b → cum l b - cum l' b = cum l 2 - cum l' 2 := by
      intro b hb
      induction hb with
      | refl => rfl
      | @step b hb ih =>
        simp only [cum]
        have hb' : 2 ≤ b := hb
        have : lenL l ((b : Int) + 1) = lenL l' ((b : Int) + 1) := by
          unfold lenL
          rw [if_neg (show ¬ ((b : Int) + 1 = 2) by omega), if_neg (show ¬ ((b : Int) + 1 = 2) by omega)]
        simp only [cum] at ih
        omega
    have h := key (a + 2) (by omega)
    have : cum l 2 ≤ cum l' 2 + 1 := by simp [cum, lenL]; repeat' split <;> omega
    omega
theorem cum_leap {l l' : Int} (hl : lpL l = false) (a : Nat) : cum l a ≤ cum l' a := by
  induction a with
  | zero => exact Int.le_refl _
  | succ a ih =>
    simp only [cum]
    have : lenL l ((a : Int) + 1) ≤ lenL l' ((a : Int) + 1) := by
      unfold lenL
      rw [hl]
      by_cases h2 : (a : Int) + 1 = 2
      · rw [if_pos h2, if_pos h2]; cases lpL l' <;> simp
      · rw [if_neg h2, if_neg h2]; exact Int.le_refl _
    omega
/-- Twelve months on are 365 days at least. -/
theorem days_twelve (y m : Int) : 365 ≤ daysS y (m + 12) 1 - daysS y m 1 := by
  unfold daysS
  rw [show (m + 12 - 1) / 12 = (m - 1) / 12 + 1 by omega, show (m + 12 - 1) % 12 = (m - 1) % 12 by omega, ← Int.add_assoc]
  generalize lnY y + (m - 1) / 12 = l
  generalize ((m - 1) % 12).toNat = k
  have a := ahd_succ l
  simp only [dayN, Nat.add_sub_cancel]
  cases h : lpL l with
  | true =>
    have := cum_near l (l + 1) k
    simp [yrL, h] at a
    omega
  | false =>
    have := cum_leap (l' := l + 1) h k
    simp [yrL, h] at a
    omega
end Go.Proofs.YtgaegajcejpmdaaGreatDoor.Dt
