/- Moments and spans: plain. -/
import Derived.Test.YtgaegajcejpmdaaGreatDoorHDtCal1
namespace Go.Proofs.YtgaegajcejpmdaaGreatDoor.Dt
set_option linter.unusedVariables false

/-- The last of 0 .. N that is not beyond x. -/
def fnd (f : Nat → Int) (x : Int) : Nat → Nat
  | 0 => 0
  | N + 1 => if f (N + 1) ≤ x then N + 1 else fnd f x N
theorem fnd_ok {f : Nat → Int} {x : Int} : ∀ N : Nat, f 0 ≤ x → x < f (N + 1) → f (fnd f x N) ≤ x ∧ x < f (fnd f x N + 1) ∧ fnd f x N ≤ N
  | 0, h0, h1 => ⟨h0, h1, Nat.le_refl _⟩
  | N + 1, h0, h1 => by
    unfold fnd
    split
    · rename_i h; exact ⟨h, h1, Nat.le_refl _⟩
    · rename_i h
      obtain ⟨a, b, c⟩ := fnd_ok N h0 (by omega)
      exact ⟨a, b, by omega⟩
/-- The day of a number. -/
def civL (n : Int) : Int := 2000 + 400 * (n / 146097) + (fnd (fun k => ahd (2000 + 400 * (n / 146097) + k) - ahd (2000 + 400 * (n / 146097))) (n % 146097) 399 : Nat)
def civR (n : Int) : Int := n - (ahd (civL n) - ahd 2000)
def civJ (n : Int) : Nat := fnd (cum (civL n)) (civR n) 11
def civM (n : Int) : Nat := civJ n + 1
def civD (n : Int) : Int := civR n - cum (civL n) (civJ n) + 1
theorem civ_is (n : Int) : IsDay n (civL n) (civM n) (civD n) := by
  have hr : 0 ≤ civR n ∧ civR n < yrL (civL n) := by
    have h := fnd_ok (f := fun k => ahd (2000 + 400 * (n / 146097) + k) - ahd (2000 + 400 * (n / 146097))) (x := n % 146097) 399 (by simp; omega) (by
      have h1 := ahd_cycle (2000 + 400 * (n / 146097)) 1
      have h2 : (2000 + 400 * (n / 146097) + ((399 + 1 : Nat) : Int)) = 2000 + 400 * (n / 146097) + 400 * 1 := by omega
      show n % 146097 < ahd (2000 + 400 * (n / 146097) + ((399 + 1 : Nat) : Int)) - _
      rw [h2]
      omega)
    have hc : ahd (2000 + 400 * (n / 146097)) = ahd 2000 + 146097 * (n / 146097) := ahd_cycle _ _
    have hs := ahd_succ (civL n)
    unfold civR
    unfold civL at hs ⊢
    generalize fnd (fun k => ahd (2000 + 400 * (n / 146097) + k) - ahd (2000 + 400 * (n / 146097))) (n % 146097) 399 = q at h hs ⊢
    obtain ⟨a, b, _⟩ := h
    have b' : n % 146097 < ahd (2000 + 400 * (n / 146097) + q + 1) - ahd (2000 + 400 * (n / 146097)) := by
      have e : (2000 + 400 * (n / 146097) + ((q + 1 : Nat) : Int)) = 2000 + 400 * (n / 146097) + q + 1 := by omega
      rw [← e]; exact b
    have a' : ahd (2000 + 400 * (n / 146097) + q) - ahd (2000 + 400 * (n / 146097)) ≤ n % 146097 := a
    have := Int.emod_add_mul_ediv n 146097
    omega
  obtain ⟨a, b, c⟩ := fnd_ok (f := cum (civL n)) (x := civR n) 11 (by simpa [cum] using hr.1) (by
    have := cum_twelve (civL n)
    have e : cum (civL n) (11 + 1) = yrL (civL n) := this
    rw [e]; exact hr.2)
  change cum (civL n) (civJ n) ≤ civR n at a
  change civR n < cum (civL n) (civJ n + 1) at b
  change civJ n ≤ 11 at c
  simp only [cum] at b
  refine ⟨by unfold civM; omega, by unfold civM; omega, by unfold civD; omega, ?_, ?_⟩
  · have e : ((civM n : Nat) : Int) = (civJ n : Int) + 1 := by unfold civM; omega
    rw [e]
    unfold civD
    omega
  · simp only [dayN, civM, Nat.add_sub_cancel]
    unfold civD civR
    omega
theorem civ_of {n l : Int} {m : Nat} {d : Int} (h : IsDay n l m d) : civL n = l ∧ civM n = m ∧ civD n = d := (civ_is n).uniq h

/-- A moment, a span. -/
structure Mo where
  (k y m d s n : Int)
  hz : Bool
  z : Int
deriving DecidableEq
structure Sp where
  (o s n : Int)
deriving DecidableEq
def linS (a : Mo) (z : Int) : Int := 86400 * daysS a.y a.m a.d + a.s - 60 * z
def ordS (a x b y : Int) : Int := if a < b ∨ a = b ∧ x < y then -1 else if a = b ∧ x = y then 0 else 1
theorem ord_swap (a x b y : Int) : ordS b y a x = - ordS a x b y := by unfold ordS; repeat' split <;> omega
theorem ord_in (a x b y : Int) : ordS a x b y = -1 ∨ ordS a x b y = 0 ∨ ordS a x b y = 1 := by unfold ordS; repeat' split <;> omega
theorem ord_refl (a x : Int) : ordS a x a x = 0 := by unfold ordS; simp
theorem ord_trans {a x b y c z : Int} (h : ordS a x b y = -1) (h' : ordS b y c z = -1) : ordS a x c z = -1 := by
  unfold ordS at *
  split at h
  · split at h'
    · rw [if_pos (by omega)]
    · split at h' <;> omega
  · split at h <;> omega
/-- One with a zone, one without. -/
def mixS (a b : Mo) : Int := if ordS (linS a a.z) a.n (linS b 840) b.n = ordS (linS a a.z) a.n (linS b (-840)) b.n ∧ ordS (linS a a.z) a.n (linS b 840) b.n ≠ 0 then ordS (linS a a.z) a.n (linS b 840) b.n else 2
def cmpM (a b : Mo) : Int :=
  if a.k ≠ b.k then 2
  else if a.hz = b.hz then ordS (linS a a.z) a.n (linS b b.z) b.n
  else if a.hz then mixS a b
  else if mixS b a = 2 then 2 else - mixS b a
theorem mix_in (a b : Mo) : mixS a b = -1 ∨ mixS a b = 1 ∨ mixS a b = 2 := by
  unfold mixS
  rcases ord_in (linS a a.z) a.n (linS b 840) b.n with h | h | h <;> rw [h] <;> split <;> omega
theorem cmp_in (a b : Mo) : cmpM a b = -1 ∨ cmpM a b = 0 ∨ cmpM a b = 1 ∨ cmpM a b = 2 := by
  unfold cmpM
  have h1 := ord_in (linS a a.z) a.n (linS b b.z) b.n
  have h2 := mix_in a b
  have h3 := mix_in b a
  repeat' split <;> omega
theorem cmp_turn (a b : Mo) : cmpM b a = if cmpM a b = 2 then 2 else - cmpM a b := by
  unfold cmpM
  by_cases hk : a.k = b.k
  · rw [if_neg (show ¬ b.k ≠ a.k by rw [hk]; simp), if_neg (show ¬ a.k ≠ b.k by rw [hk]; simp)]
    have h1 := ord_in (linS a a.z) a.n (linS b b.z) b.n
    have h4 := ord_swap (linS a a.z) a.n (linS b b.z) b.n
    have h2 := mix_in a b
    have h3 := mix_in b a
    cases ha : a.hz <;> cases hb : b.hz <;> simp [h4]
    all_goals first | omega | (split <;> omega)
  · rw [if_pos (show b.k ≠ a.k from fun h => hk h.symm), if_pos (show a.k ≠ b.k from hk)]
    simp
theorem cmp_self (a : Mo) : cmpM a a = 0 := by unfold cmpM; simp [ord_refl]
theorem cmp_less {a b c : Mo} (h : cmpM a b = -1) (h' : cmpM b c = -1) (e : a.hz = b.hz) (e' : b.hz = c.hz) : cmpM a c = -1 := by
  unfold cmpM at *
  by_cases hk : a.k = b.k
  · by_cases hk' : b.k = c.k
    · rw [if_neg (by simpa using hk), if_pos e] at h
      rw [if_neg (by simpa using hk'), if_pos e'] at h'
      rw [if_neg (by simpa using hk.trans hk'), if_pos (e.trans e')]
      exact ord_trans h h'
    · rw [if_pos hk'] at h'; omega
  · rw [if_pos hk] at h; omega

/-- P604: a span on a moment. -/
def addL (a : Mo) (p : Sp) : Int := lnY a.y + (a.m - 1 + p.o) / 12
def addO (a : Mo) (p : Sp) : Int := (a.m - 1 + p.o) % 12 + 1
def addC (a : Mo) (p : Sp) : Int := if a.d > lenL (addL a p) (addO a p) then lenL (addL a p) (addO a p) else a.d
def addT (a : Mo) (p : Sp) : Int := a.s + p.s + (a.n + p.n) / 1000000000
def addN (a : Mo) (p : Sp) : Int := daysS (bkY (addL a p)) (addO a p) (addC a p) + addT a p / 86400
def addM (a : Mo) (p : Sp) : Mo := ⟨a.k, bkY (civL (addN a p)), (civM (addN a p) : Nat), civD (addN a p), addT a p % 86400, (a.n + p.n) % 1000000000, a.hz, a.z⟩
theorem days_civ (n : Int) : daysS (bkY (civL n)) (civM n : Nat) (civD n) = n := by
  have h := civ_is n
  have := days_is (y := bkY (civL n)) h.m0 h.m1 h.d0 (by rw [ln_bk]; exact h.d1)
  have e := this.at_
  rw [ln_bk] at e
  rw [← e]
  exact h.at_
/-- The line goes on by the span's seconds. -/
theorem lin_add (a : Mo) (p : Sp) (z : Int) : linS (addM a p) z = 86400 * daysS (bkY (addL a p)) (addO a p) (addC a p) + addT a p - 60 * z := by
  unfold linS
  simp only [addM]
  rw [days_civ]
  unfold addN
  omega
/-- A day within its month is itself again. -/
theorem add_same {a : Mo} {s n : Int} (hy : a.y ≠ 0) (hm : 1 ≤ a.m) (hm' : a.m ≤ 12) (hd' : a.d ≤ lenL (lnY a.y) a.m) : addL a ⟨0, s, n⟩ = lnY a.y ∧ addO a ⟨0, s, n⟩ = a.m ∧ addC a ⟨0, s, n⟩ = a.d ∧ bkY (addL a ⟨0, s, n⟩) = a.y := by
  have h1 : addL a ⟨0, s, n⟩ = lnY a.y := by unfold addL; simp only []; omega
  have h2 : addO a ⟨0, s, n⟩ = a.m := by unfold addO; simp only []; omega
  refine ⟨h1, h2, ?_, by rw [h1, bk_ln hy]⟩
  unfold addC
  rw [h1, h2, if_neg (by omega)]
/-- The four moments of a span's order. -/
def refM (y m : Int) : Mo := ⟨1, y, m, 1, 0, 0, false, 0⟩
def cmp4 (y m : Int) (a b : Sp) : Int := cmpM (addM (refM y m) a) (addM (refM y m) b)
def cmpP (a b : Sp) : Int :=
  let c := cmp4 1903 7 a b
  if cmp4 1696 9 a b = c ∧ cmp4 1697 2 a b = c ∧ cmp4 1903 3 a b = c then c else 2
theorem cmp4_turn (y m : Int) (a b : Sp) : cmp4 y m b a = - cmp4 y m a b := by
  unfold cmp4 cmpM
  simp only [addM, refM]
  simp only [ne_eq, not_true_eq_false, if_false, if_true]
  rw [ord_swap]
theorem cmp4_in (y m : Int) (a b : Sp) : cmp4 y m a b = -1 ∨ cmp4 y m a b = 0 ∨ cmp4 y m a b = 1 := by
  unfold cmp4 cmpM
  simp only [addM, refM]
  simp
  exact ord_in _ _ _ _
theorem cmpP_turn (a b : Sp) : cmpP b a = if cmpP a b = 2 then 2 else - cmpP a b := by
  have e1 := cmp4_turn 1696 9 a b
  have e2 := cmp4_turn 1697 2 a b
  have e3 := cmp4_turn 1903 3 a b
  have e4 := cmp4_turn 1903 7 a b
  have h4 := cmp4_in 1903 7 a b
  unfold cmpP
  simp only [e1, e2, e3, e4]
  by_cases h : cmp4 1696 9 a b = cmp4 1903 7 a b ∧ cmp4 1697 2 a b = cmp4 1903 7 a b ∧ cmp4 1903 3 a b = cmp4 1903 7 a b
  · rw [if_pos (by omega), if_pos h, if_neg (by omega)]
  · rw [if_neg (by omega), if_neg h]; simp
theorem cmpP_self (a : Sp) : cmpP a a = 0 := by unfold cmpP cmp4; simp [cmp_self]
end Go.Proofs.YtgaegajcejpmdaaGreatDoor.Dt
