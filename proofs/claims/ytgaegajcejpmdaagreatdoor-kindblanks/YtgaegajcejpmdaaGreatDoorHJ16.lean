/- Joined: HDtCal1, HDtCal2. -/
namespace Go.Proofs.YtgaegajcejpmdaaGreatDoor.Dt
set_option linter.unusedVariables false

/-- A year as a row's number without a gap, and back. -/
def lnY (y : Int) : Int := if y < 0 then y + 1 else y
def bkY (l : Int) : Int := if l ≤ 0 then l - 1 else l
theorem ln_bk (l : Int) : lnY (bkY l) = l := by unfold lnY bkY; repeat' split <;> omega
theorem bk_ln {y : Int} (h : y ≠ 0) : bkY (lnY y) = y := by unfold lnY bkY; repeat' split <;> omega
theorem bk_ne (l : Int) : bkY l ≠ 0 := by unfold bkY; split <;> omega
theorem bk_inj {a b : Int} (h : bkY a = bkY b) : a = b := by rw [← ln_bk a, h, ln_bk]

/-- Leap years, of a row's number. -/
def lpL (l : Int) : Bool := l % 4 == 0 && (l % 100 != 0 || l % 400 == 0)
theorem lp_true {l : Int} : lpL l = true ↔ l % 4 = 0 ∧ (l % 100 ≠ 0 ∨ l % 400 = 0) := by unfold lpL; simp
theorem lp_false {l : Int} : lpL l = false ↔ ¬ (l % 4 = 0 ∧ (l % 100 ≠ 0 ∨ l % 400 = 0)) := by rw [← lp_true]; simp
def yrL (l : Int) : Int := if lpL l then 366 else 365
theorem yr_two (l : Int) : yrL l = 365 ∨ yrL l = 366 := by unfold yrL; split <;> simp
/-- The days of the years ahead. -/
def ahd (l : Int) : Int := 365 * l + (l + 3) / 4 - (l + 99) / 100 + (l + 399) / 400
theorem ahd_succ (l : Int) : ahd (l + 1) = ahd l + yrL l := by
  unfold ahd yrL
  split
  · rename_i h
    rw [lp_true] at h
    omega
  · rename_i h
    have h : lpL l = false := by simpa using h
    rw [lp_false] at h
    omega
theorem ahd_cycle (l k : Int) : ahd (l + 400 * k) = ahd l + 146097 * k := by unfold ahd; omega
theorem lp_cycle (l k : Int) : lpL (l + 400 * k) = lpL l := by
  unfold lpL
  rw [show (l + 400 * k) % 4 = l % 4 by omega, show (l + 400 * k) % 100 = l % 100 by omega, show (l + 400 * k) % 400 = l % 400 by omega]
theorem ahd_grow (l : Int) (k : Nat) : ahd l + 365 * k ≤ ahd (l + k) := by
  induction k with
  | zero => simp
  | succ k ih =>
    have := ahd_succ (l + k)
    rw [show l + ((k + 1 : Nat) : Int) = l + k + 1 by omega, this]
    rcases yr_two (l + k) with h | h <;> omega
theorem ahd_lt {l m : Int} (h : l < m) : ahd (l + 1) ≤ ahd m := by
  obtain ⟨k, rfl⟩ : ∃ k : Nat, m = l + 1 + k := ⟨(m - (l + 1)).toNat, by omega⟩
  have := ahd_grow (l + 1) k
  omega

/-- A month's length, of a row's number. -/
def lenL (l m : Int) : Int := if m = 2 then (if lpL l then 29 else 28) else if m = 4 ∨ m = 6 ∨ m = 9 ∨ m = 11 then 30 else if 1 ≤ m ∧ m ≤ 12 then 31 else 0
theorem len_in {l m : Int} (h : 1 ≤ m) (h' : m ≤ 12) : 28 ≤ lenL l m ∧ lenL l m ≤ 31 := by unfold lenL; repeat' split <;> omega
theorem len_cycle (l m k : Int) : lenL (l + 400 * k) m = lenL l m := by unfold lenL; rw [lp_cycle]
/-- The days of the months ahead. -/
def cum (l : Int) : Nat → Int
  | 0 => 0
  | k + 1 => cum l k + lenL l ((k : Int) + 1)
theorem cum_twelve (l : Int) : cum l 12 = yrL l := by
  simp [cum, lenL, yrL]
  split <;> rfl
theorem len_nonneg (l m : Int) : 0 ≤ lenL l m := by unfold lenL; repeat' split <;> omega
theorem cum_mono (l : Int) {a b : Nat} (h : a ≤ b) : cum l a ≤ cum l b := by
  induction h with
  | refl => exact Int.le_refl _
  | step _ ih => simp only [cum]; exact Int.le_trans ih (by have := len_nonneg l; exact Int.le_add_of_nonneg_right (this _))
theorem cum_nonneg (l : Int) (a : Nat) : 0 ≤ cum l a := cum_mono l (Nat.zero_le a)
theorem cum_le (l : Int) {a : Nat} (h : a ≤ 12) : cum l a ≤ 366 := by
  have := cum_mono l h
  rw [cum_twelve] at this
  rcases yr_two l with e | e <;> omega
/-- The number of a day: l a row's number, m a month from 1 on, d a day from 1 on. -/
def dayN (l : Int) (m : Nat) (d : Int) : Int := ahd l - ahd 2000 + cum l (m - 1) + d - 1
/-- P602's count of any numbers. -/
def daysS (y m d : Int) : Int := dayN (lnY y + (m - 1) / 12) (((m - 1) % 12).toNat + 1) d
/-- The day of this number: it is the one. -/
structure IsDay (n l : Int) (m : Nat) (d : Int) : Prop where
  m0 : 1 ≤ m
  m1 : m ≤ 12
  d0 : 1 ≤ d
  d1 : d ≤ lenL l m
  at_ : dayN l m d = n
theorem IsDay.within {n l : Int} {m : Nat} {d : Int} (h : IsDay n l m d) : ahd l - ahd 2000 ≤ n ∧ n < ahd (l + 1) - ahd 2000 := by
  obtain ⟨m0, m1, d0, d1, rfl⟩ := h
  have a := cum_nonneg l (m - 1)
  have b := cum_mono l (show m ≤ 12 by omega)
  obtain ⟨k, rfl⟩ : ∃ k, m = k + 1 := ⟨m - 1, by omega⟩
  rw [cum_twelve] at b
  have c := ahd_succ l
  simp only [cum] at b
  have d1' : d ≤ lenL l ((k : Int) + 1) := by simpa using d1
  simp only [dayN, Nat.add_sub_cancel] at a ⊢
  omega
theorem IsDay.uniq {n l l' : Int} {m m' : Nat} {d d' : Int} (h : IsDay n l m d) (h' : IsDay n l' m' d') : l = l' ∧ m = m' ∧ d = d' := by
  have e : l = l' := by
    have w := h.within
    have w' := h'.within
    by_cases c : l < l'
    · have := ahd_lt c
      omega
    · by_cases c' : l' < l
      · have := ahd_lt c'
        omega
      · omega
  subst e
  obtain ⟨m0, m1, d0, d1, rfl⟩ := h
  obtain ⟨m0', m1', d0', d1', e⟩ := h'
  obtain ⟨k, rfl⟩ : ∃ k, m = k + 1 := ⟨m - 1, by omega⟩
  obtain ⟨k', rfl⟩ : ∃ k, m' = k + 1 := ⟨m' - 1, by omega⟩
  simp only [dayN, Nat.add_sub_cancel] at e
  have d2 : d ≤ lenL l ((k : Int) + 1) := by simpa using d1
  have d2' : d' ≤ lenL l ((k' : Int) + 1) := by simpa using d1'
  have ek : k = k' := by
    by_cases c : k < k'
    · have := cum_mono l (show k + 1 ≤ k' from c)
      simp only [cum] at this
      omega
    · by_cases c' : k' < k
      · have := cum_mono l (show k' + 1 ≤ k from c')
        simp only [cum] at this
        omega
      · omega
  subst ek
  exact ⟨rfl, rfl, by omega⟩
/-- A day that stands in a month bears its number. -/
theorem days_is {y : Int} {m : Nat} {d : Int} (m0 : 1 ≤ m) (m1 : m ≤ 12) (d0 : 1 ≤ d) (d1 : d ≤ lenL (lnY y) m) : IsDay (daysS y m d) (lnY y) m d := by
  refine ⟨m0, m1, d0, d1, ?_⟩
  unfold daysS
  rw [show ((m : Int) - 1) / 12 = 0 by omega, show (((m : Int) - 1) % 12).toNat + 1 = m by omega, Int.add_zero]
theorem days_day (y m d k : Int) : daysS y m (d + k) = daysS y m d + k := by unfold daysS dayN; omega
/-- A year's days. -/
theorem days_year (y : Int) : daysS y 13 1 - daysS y 1 1 = yrL (lnY y) := by
  have := ahd_succ (lnY y)
  unfold daysS dayN
  simp [cum]
  omega
theorem cum_near (l l' : Int) : ∀ a : Nat, cum l a ≤ cum l' a + 1
  | 0 => by simp [cum]
  | 1 => by simp [cum, lenL]
  | a + 2 => by
    have key : ∀ b : Nat, 2 ≤ b → cum l b - cum l' b = cum l 2 - cum l' 2 := by
      intro b hb
      induction hb with
      | refl => rfl
      | @step b hb ih =>
        simp only [cum]
        have hb' : 2 ≤ b := hb
        have : lenL l ((b : Int) + 1) = lenL l' ((b : Int) + 1) := by
          unfold lenL
          rw [if_neg (show ¬ ((b : Int) + 1 = 2) by omega), if_neg (show ¬ ((b : Int) + 1 = 2) by omega)]
        simp only [cum] at ih
        omega
    have h := key (a + 2) (by omega)
    have : cum l 2 ≤ cum l' 2 + 1 := by simp [cum, lenL]; repeat' split <;> omega
    omega
theorem cum_leap {l l' : Int} (hl : lpL l = false) (a : Nat) : cum l a ≤ cum l' a := by
  induction a with
  | zero => exact Int.le_refl _
  | succ a ih =>
    simp only [cum]
    have : lenL l ((a : Int) + 1) ≤ lenL l' ((a : Int) + 1) := by
      unfold lenL
      rw [hl]
      by_cases h2 : (a : Int) + 1 = 2
      · rw [if_pos h2, if_pos h2]; cases lpL l' <;> simp
      · rw [if_neg h2, if_neg h2]; exact Int.le_refl _
    omega
/-- Twelve months on are 365 days at least. -/
theorem days_twelve (y m : Int) : 365 ≤ daysS y (m + 12) 1 - daysS y m 1 := by
  unfold daysS
  rw [show (m + 12 - 1) / 12 = (m - 1) / 12 + 1 by omega, show (m + 12 - 1) % 12 = (m - 1) % 12 by omega, ← Int.add_assoc]
  generalize lnY y + (m - 1) / 12 = l
  generalize ((m - 1) % 12).toNat = k
  have a := ahd_succ l
  simp only [dayN, Nat.add_sub_cancel]
  cases h : lpL l with
  | true =>
    have := cum_near l (l + 1) k
    simp [yrL, h] at a
    omega
  | false =>
    have := cum_leap (l' := l + 1) h k
    simp [yrL, h] at a
    omega
end Go.Proofs.YtgaegajcejpmdaaGreatDoor.Dt
namespace Go.Proofs.YtgaegajcejpmdaaGreatDoor.Dt
set_option linter.unusedVariables false

/-- The last of 0 .. N that is not beyond x. -/
def fnd (f : Nat → Int) (x : Int) : Nat → Nat
  | 0 => 0
  | N + 1 => if f (N + 1) ≤ x then N + 1 else fnd f x N
theorem fnd_ok {f : Nat → Int} {x : Int} : ∀ N : Nat, f 0 ≤ x → x < f (N + 1) → f (fnd f x N) ≤ x ∧ x < f (fnd f x N + 1) ∧ fnd f x N ≤ N
  | 0, h0, h1 => ⟨h0, h1, Nat.le_refl _⟩
  | N + 1, h0, h1 => by
    unfold fnd
    split
    · rename_i h; exact ⟨h, h1, Nat.le_refl _⟩
    · rename_i h
      obtain ⟨a, b, c⟩ := fnd_ok N h0 (by omega)
      exact ⟨a, b, by omega⟩
/-- The day of a number. -/
def civL (n : Int) : Int := 2000 + 400 * (n / 146097) + (fnd (fun k => ahd (2000 + 400 * (n / 146097) + k) - ahd (2000 + 400 * (n / 146097))) (n % 146097) 399 : Nat)
def civR (n : Int) : Int := n - (ahd (civL n) - ahd 2000)
def civJ (n : Int) : Nat := fnd (cum (civL n)) (civR n) 11
def civM (n : Int) : Nat := civJ n + 1
def civD (n : Int) : Int := civR n - cum (civL n) (civJ n) + 1
theorem civ_is (n : Int) : IsDay n (civL n) (civM n) (civD n) := by
  have hr : 0 ≤ civR n ∧ civR n < yrL (civL n) := by
    have h := fnd_ok (f := fun k => ahd (2000 + 400 * (n / 146097) + k) - ahd (2000 + 400 * (n / 146097))) (x := n % 146097) 399 (by simp; omega) (by
      have h1 := ahd_cycle (2000 + 400 * (n / 146097)) 1
      have h2 : (2000 + 400 * (n / 146097) + ((399 + 1 : Nat) : Int)) = 2000 + 400 * (n / 146097) + 400 * 1 := by omega
      show n % 146097 < ahd (2000 + 400 * (n / 146097) + ((399 + 1 : Nat) : Int)) - _
      rw [h2]
      omega)
    have hc : ahd (2000 + 400 * (n / 146097)) = ahd 2000 + 146097 * (n / 146097) := ahd_cycle _ _
    have hs := ahd_succ (civL n)
    unfold civR
    unfold civL at hs ⊢
    generalize fnd (fun k => ahd (2000 + 400 * (n / 146097) + k) - ahd (2000 + 400 * (n / 146097))) (n % 146097) 399 = q at h hs ⊢
    obtain ⟨a, b, _⟩ := h
    have b' : n % 146097 < ahd (2000 + 400 * (n / 146097) + q + 1) - ahd (2000 + 400 * (n / 146097)) := by
      have e : (2000 + 400 * (n / 146097) + ((q + 1 : Nat) : Int)) = 2000 + 400 * (n / 146097) + q + 1 := by omega
      rw [← e]; exact b
    have a' : ahd (2000 + 400 * (n / 146097) + q) - ahd (2000 + 400 * (n / 146097)) ≤ n % 146097 := a
    have := Int.emod_add_mul_ediv n 146097
    omega
  obtain ⟨a, b, c⟩ := fnd_ok (f := cum (civL n)) (x := civR n) 11 (by simpa [cum] using hr.1) (by
    have := cum_twelve (civL n)
    have e : cum (civL n) (11 + 1) = yrL (civL n) := this
    rw [e]; exact hr.2)
  change cum (civL n) (civJ n) ≤ civR n at a
  change civR n < cum (civL n) (civJ n + 1) at b
  change civJ n ≤ 11 at c
  simp only [cum] at b
  refine ⟨by unfold civM; omega, by unfold civM; omega, by unfold civD; omega, ?_, ?_⟩
  · have e : ((civM n : Nat) : Int) = (civJ n : Int) + 1 := by unfold civM; omega
    rw [e]
    unfold civD
    omega
  · simp only [dayN, civM, Nat.add_sub_cancel]
    unfold civD civR
    omega
theorem civ_of {n l : Int} {m : Nat} {d : Int} (h : IsDay n l m d) : civL n = l ∧ civM n = m ∧ civD n = d := (civ_is n).uniq h

/-- A moment, a span. -/
structure Mo where
  (k y m d s n : Int)
  hz : Bool
  z : Int
deriving DecidableEq
structure Sp where
  (o s n : Int)
deriving DecidableEq
def linS (a : Mo) (z : Int) : Int := 86400 * daysS a.y a.m a.d + a.s - 60 * z
def ordS (a x b y : Int) : Int := if a < b ∨ a = b ∧ x < y then -1 else if a = b ∧ x = y then 0 else 1
theorem ord_swap (a x b y : Int) : ordS b y a x = - ordS a x b y := by unfold ordS; repeat' split <;> omega
theorem ord_in (a x b y : Int) : ordS a x b y = -1 ∨ ordS a x b y = 0 ∨ ordS a x b y = 1 := by unfold ordS; repeat' split <;> omega
theorem ord_refl (a x : Int) : ordS a x a x = 0 := by unfold ordS; simp
theorem ord_trans {a x b y c z : Int} (h : ordS a x b y = -1) (h' : ordS b y c z = -1) : ordS a x c z = -1 := by
  unfold ordS at *
  split at h
  · split at h'
    · rw [if_pos (by omega)]
    · split at h' <;> omega
  · split at h <;> omega
/-- One with a zone, one without. -/
def mixS (a b : Mo) : Int := if ordS (linS a a.z) a.n (linS b 840) b.n = ordS (linS a a.z) a.n (linS b (-840)) b.n ∧ ordS (linS a a.z) a.n (linS b 840) b.n ≠ 0 then ordS (linS a a.z) a.n (linS b 840) b.n else 2
def cmpM (a b : Mo) : Int :=
  if a.k ≠ b.k then 2
  else if a.hz = b.hz then ordS (linS a a.z) a.n (linS b b.z) b.n
  else if a.hz then mixS a b
  else if mixS b a = 2 then 2 else - mixS b a
theorem mix_in (a b : Mo) : mixS a b = -1 ∨ mixS a b = 1 ∨ mixS a b = 2 := by
  unfold mixS
  rcases ord_in (linS a a.z) a.n (linS b 840) b.n with h | h | h <;> rw [h] <;> split <;> omega
theorem cmp_in (a b : Mo) : cmpM a b = -1 ∨ cmpM a b = 0 ∨ cmpM a b = 1 ∨ cmpM a b = 2 := by
  unfold cmpM
  have h1 := ord_in (linS a a.z) a.n (linS b b.z) b.n
  have h2 := mix_in a b
  have h3 := mix_in b a
  repeat' split <;> omega
theorem cmp_turn (a b : Mo) : cmpM b a = if cmpM a b = 2 then 2 else - cmpM a b := by
  unfold cmpM
  by_cases hk : a.k = b.k
  · rw [if_neg (show ¬ b.k ≠ a.k by rw [hk]; simp), if_neg (show ¬ a.k ≠ b.k by rw [hk]; simp)]
    have h1 := ord_in (linS a a.z) a.n (linS b b.z) b.n
    have h4 := ord_swap (linS a a.z) a.n (linS b b.z) b.n
    have h2 := mix_in a b
    have h3 := mix_in b a
    cases ha : a.hz <;> cases hb : b.hz <;> simp [h4]
    all_goals first | omega | (split <;> omega)
  · rw [if_pos (show b.k ≠ a.k from fun h => hk h.symm), if_pos (show a.k ≠ b.k from hk)]
    simp
theorem cmp_self (a : Mo) : cmpM a a = 0 := by unfold cmpM; simp [ord_refl]
theorem cmp_less {a b c : Mo} (h : cmpM a b = -1) (h' : cmpM b c = -1) (e : a.hz = b.hz) (e' : b.hz = c.hz) : cmpM a c = -1 := by
  unfold cmpM at *
  by_cases hk : a.k = b.k
  · by_cases hk' : b.k = c.k
    · rw [if_neg (by simpa using hk), if_pos e] at h
      rw [if_neg (by simpa using hk'), if_pos e'] at h'
      rw [if_neg (by simpa using hk.trans hk'), if_pos (e.trans e')]
      exact ord_trans h h'
    · rw [if_pos hk'] at h'; omega
  · rw [if_pos hk] at h; omega

/-- P604: a span on a moment. -/
def addL (a : Mo) (p : Sp) : Int := lnY a.y + (a.m - 1 + p.o) / 12
def addO (a : Mo) (p : Sp) : Int := (a.m - 1 + p.o) % 12 + 1
def addC (a : Mo) (p : Sp) : Int := if a.d > lenL (addL a p) (addO a p) then lenL (addL a p) (addO a p) else a.d
def addT (a : Mo) (p : Sp) : Int := a.s + p.s + (a.n + p.n) / 1000000000
def addN (a : Mo) (p : Sp) : Int := daysS (bkY (addL a p)) (addO a p) (addC a p) + addT a p / 86400
def addM (a : Mo) (p : Sp) : Mo := ⟨a.k, bkY (civL (addN a p)), (civM (addN a p) : Nat), civD (addN a p), addT a p % 86400, (a.n + p.n) % 1000000000, a.hz, a.z⟩
theorem days_civ (n : Int) : daysS (bkY (civL n)) (civM n : Nat) (civD n) = n := by
  have h := civ_is n
  have := days_is (y := bkY (civL n)) h.m0 h.m1 h.d0 (by rw [ln_bk]; exact h.d1)
  have e := this.at_
  rw [ln_bk] at e
  rw [← e]
  exact h.at_
/-- The line goes on by the span's seconds. -/
theorem lin_add (a : Mo) (p : Sp) (z : Int) : linS (addM a p) z = 86400 * daysS (bkY (addL a p)) (addO a p) (addC a p) + addT a p - 60 * z := by
  unfold linS
  simp only [addM]
  rw [days_civ]
  unfold addN
  omega
/-- A day within its month is itself again. -/
theorem add_same {a : Mo} {s n : Int} (hy : a.y ≠ 0) (hm : 1 ≤ a.m) (hm' : a.m ≤ 12) (hd' : a.d ≤ lenL (lnY a.y) a.m) : addL a ⟨0, s, n⟩ = lnY a.y ∧ addO a ⟨0, s, n⟩ = a.m ∧ addC a ⟨0, s, n⟩ = a.d ∧ bkY (addL a ⟨0, s, n⟩) = a.y := by
  have h1 : addL a ⟨0, s, n⟩ = lnY a.y := by unfold addL; simp only []; omega
  have h2 : addO a ⟨0, s, n⟩ = a.m := by unfold addO; simp only []; omega
  refine ⟨h1, h2, ?_, by rw [h1, bk_ln hy]⟩
  unfold addC
  rw [h1, h2, if_neg (by omega)]
/-- The four moments of a span's order. -/
def refM (y m : Int) : Mo := ⟨1, y, m, 1, 0, 0, false, 0⟩
def cmp4 (y m : Int) (a b : Sp) : Int := cmpM (addM (refM y m) a) (addM (refM y m) b)
def cmpP (a b : Sp) : Int :=
  let c := cmp4 1903 7 a b
  if cmp4 1696 9 a b = c ∧ cmp4 1697 2 a b = c ∧ cmp4 1903 3 a b = c then c else 2
theorem cmp4_turn (y m : Int) (a b : Sp) : cmp4 y m b a = - cmp4 y m a b := by
  unfold cmp4 cmpM
  simp only [addM, refM]
  simp only [ne_eq, not_true_eq_false, if_false, if_true]
  rw [ord_swap]
theorem cmp4_in (y m : Int) (a b : Sp) : cmp4 y m a b = -1 ∨ cmp4 y m a b = 0 ∨ cmp4 y m a b = 1 := by
  unfold cmp4 cmpM
  simp only [addM, refM]
  simp
  exact ord_in _ _ _ _
theorem cmpP_turn (a b : Sp) : cmpP b a = if cmpP a b = 2 then 2 else - cmpP a b := by
  have e1 := cmp4_turn 1696 9 a b
  have e2 := cmp4_turn 1697 2 a b
  have e3 := cmp4_turn 1903 3 a b
  have e4 := cmp4_turn 1903 7 a b
  have h4 := cmp4_in 1903 7 a b
  unfold cmpP
  simp only [e1, e2, e3, e4]
  by_cases h : cmp4 1696 9 a b = cmp4 1903 7 a b ∧ cmp4 1697 2 a b = cmp4 1903 7 a b ∧ cmp4 1903 3 a b = cmp4 1903 7 a b
  · rw [if_pos (by omega), if_pos h, if_neg (by omega)]
  · rw [if_neg (by omega), if_neg h]; simp
theorem cmpP_self (a : Sp) : cmpP a a = 0 := by unfold cmpP cmp4; simp [cmp_self]
end Go.Proofs.YtgaegajcejpmdaaGreatDoor.Dt
