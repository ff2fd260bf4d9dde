/- Texts that the laws make, and what they tell: plain. -/
import Derived.Test.YtijcbgjlofcdfabTxt2
namespace Go.Proofs.Ytijcbgjlofcdfab
set_option linter.unusedVariables false

/-- A number in so many digits; a number in as many as it needs (fuel: at most so many more). -/
def decB (n : Int) : Nat → List Int
  | 0 => []
  | w + 1 => decB (n / 10) w ++ [48 + n % 10]
def nbF : Nat → Int → List Int
  | 0, n => [48 + n % 10]
  | f + 1, n => if n < 10 then [48 + n % 10] else nbF f (n / 10) ++ [48 + n % 10]
theorem isD_last (n : Int) : isD (48 + n % 10) = true := by
  simp [isD]
  omega
theorem dec_len : ∀ (w : Nat) (n : Int), (decB n w).length = w
  | 0, _ => rfl
  | w + 1, n => by simp [decB, dec_len w]
theorem dec_dig : ∀ (w : Nat) (n : Int), ∀ c ∈ decB n w, isD c = true
  | 0, _ => by simp [decB]
  | w + 1, n => by
    intro c hc
    simp only [decB, List.mem_append, List.mem_singleton] at hc
    rcases hc with h | rfl
    · exact dec_dig w _ c h
    · exact isD_last n
theorem dvl_snoc (l : List Int) (c : Int) : dvl (l ++ [c]) = 10 * dvl l + (c - 48) := by
  unfold dvl
  rw [List.foldl_append]
  rfl
theorem dec_val : ∀ (w : Nat) (n : Int), 0 ≤ n → n < 10 ^ w → dvl (decB n w) = n
  | 0, n, h0, h1 => by
    have : n < 1 := by simpa using h1
    simp [decB, dvl]
    omega
  | w + 1, n, h0, h1 => by
    rw [Int.pow_succ] at h1
    rw [decB, dvl_snoc, dec_val w (n / 10) (by omega) (by omega)]
    omega
theorem nb_dig : ∀ (f : Nat) (n : Int), ∀ c ∈ nbF f n, isD c = true
  | 0, n => by
    intro c hc
    simp only [nbF, List.mem_singleton] at hc
    subst hc
    exact isD_last n
  | f + 1, n => by
    intro c hc
    rw [nbF] at hc
    split at hc
    · simp only [List.mem_singleton] at hc
      subst hc
      exact isD_last n
    · simp only [List.mem_append, List.mem_singleton] at hc
      rcases hc with h | rfl
      · exact nb_dig f _ c h
      · exact isD_last n
theorem nb_val : ∀ (f : Nat) (n : Int), 0 ≤ n → n < 10 ^ (f + 1) → dvl (nbF f n) = n ∧ 1 ≤ (nbF f n).length ∧ (nbF f n).length ≤ f + 1
  | 0, n, h0, h1 => by
    have : n < 10 := by simpa using h1
    simp [nbF, dvl]
    omega
  | f + 1, n, h0, h1 => by
    rw [nbF]
    split
    · rename_i h
      simp [dvl]
      omega
    · rename_i h
      rw [Int.pow_succ] at h1
      obtain ⟨a, b, c⟩ := nb_val f (n / 10) (by omega) (by omega)
      rw [dvl_snoc, a]
      simp
      omega
theorem dgs_app {a r : List Int} (ha : ∀ c ∈ a, isD c = true) (hr : ∀ c, r.head? = some c → isD c = false) : dgs (a ++ r) = a.length := by
  unfold dgs
  rw [List.takeWhile_append_of_pos ha]
  have : r.takeWhile isD = [] := by
    cases r with
    | nil => rfl
    | cons c r => rw [List.takeWhile_cons, hr c rfl]; rfl
  rw [this]
  simp
theorem dgs_ge {a r : List Int} (ha : ∀ c ∈ a, isD c = true) : a.length ≤ dgs (a ++ r) := by
  unfold dgs
  rw [List.takeWhile_append_of_pos ha]
  simp
theorem nm_app {a r : List Int} (ha : ∀ c ∈ a, isD c = true) : nmB a.length (a ++ r) = some (dvl a, r) := by
  unfold nmB
  have := dgs_ge (r := r) ha
  rw [if_neg (by omega)]
  simp
theorem in_dec {n lo hi : Int} (r : List Int) (h0 : 0 ≤ n) (h1 : n < 100) (hl : lo ≤ n) (hh : n ≤ hi) : inB lo hi (decB n 2 ++ r) = some (n, r) := by
  have h := nm_app (r := r) (dec_dig 2 n)
  rw [dec_len, dec_val 2 n h0 (by simpa using h1)] at h
  unfold inB
  rw [h, Option.bind_some, if_neg (by simp only []; omega)]
theorem tk_cons (c : Int) (r : List Int) : tkB c (c :: r) = some r := by simp [tkB]
theorem head_dig {a r : List Int} {c : Int} (ha : ∀ c ∈ a, isD c = true) (hn : a ≠ []) (hc : isD c = false) : (a ++ r).head? ≠ some c := by
  cases a with
  | nil => exact absurd rfl hn
  | cons x a =>
    intro h
    simp at h
    have := ha x (by simp)
    rw [h] at this
    rw [this] at hc
    cases hc
/-- A moment's text at zone 0. -/
def ztB (y m d s : Int) : List Int := decB y 4 ++ (45 :: (decB m 2 ++ (45 :: (decB d 2 ++ (84 :: (decB (s / 3600) 2 ++ (58 :: (decB (s / 60 % 60) 2 ++ (58 :: (decB (s % 60) 2 ++ [90]))))))))))
theorem zt_pr {y m d s : Int} (y0 : 1000 ≤ y) (y1 : y ≤ 9000) (m0 : 1 ≤ m) (m1 : m ≤ 12) (d0 : 1 ≤ d) (d1 : d ≤ 28) (s0 : 0 ≤ s) (s1 : s ≤ 86399) : prM 1 (ztB y m d s) = some ⟨1, y, m, d, s, 0, true, 0⟩ := by
  have hy : ∀ r : List Int, yrB (decB y 4 ++ 45 :: r) = some (y, 45 :: r) := by
    intro r
    have hh : (decB y 4 ++ 45 :: r).head? ≠ some 45 := head_dig (dec_dig 4 y) (by intro h; have := dec_len 4 y; rw [h] at this; simp at this) (by decide)
    have hg : dgs (decB y 4 ++ 45 :: r) = 4 := by
      rw [dgs_app (dec_dig 4 y) (by intro c hc; simp at hc; subst hc; decide), dec_len]
    have hn := nm_app (r := 45 :: r) (dec_dig 4 y)
    rw [dec_len, dec_val 4 y (by omega) (by rw [show (10 : Int) ^ 4 = 10000 by decide]; omega)] at hn
    unfold yrB
    simp only [if_neg hh]
    rw [hg, if_neg (by omega), hn, Option.bind_some, if_neg (by simp only []; omega)]
  have hlen := (len_in (l := lnY y) m0 m1).1
  unfold prM ztB
  have e1 : ∀ l, ftB 1 l = yrB l := fun l => by unfold ftB; rw [if_pos (by simp)]
  have e2 : ∀ l, mnB 1 l = (tkB 45 l).bind (inB 1 12) := fun l => by unfold mnB; rw [if_pos (by simp)]
  have e3 : ∀ l, dyB 1 y m l = (tkB 45 l).bind (inB 1 (lenL (lnY y) m)) := fun l => by unfold dyB; rw [if_pos (by simp), if_neg (by simp)]
  have e4 : ∀ l, ckB 1 l = (tkB 84 l).bind clB := fun l => by unfold ckB; rw [if_pos rfl]
  rw [e1, hy, Option.bind_some, e2, tk_cons, Option.bind_some, in_dec _ (by omega) (by omega) m0 m1, Option.bind_some, e3, tk_cons, Option.bind_some, in_dec _ (by omega) (by omega) d0 (by omega), Option.bind_some, e4, tk_cons, Option.bind_some]
  have hc : clB (decB (s / 3600) 2 ++ (58 :: (decB (s / 60 % 60) 2 ++ (58 :: (decB (s % 60) 2 ++ [90]))))) = some ((s, 0), [90]) := by
    unfold clB
    rw [in_dec _ (by omega) (by omega) (by omega) (by omega), Option.bind_some, tk_cons, Option.bind_some, in_dec _ (by omega) (by omega) (by omega) (by omega), Option.bind_some, tk_cons, Option.bind_some, in_dec _ (by omega) (by omega) (by omega) (by omega), Option.bind_some]
    have : frB [90] = some (0, [90]) := by decide
    rw [this, Option.bind_some, if_neg (by simp only []; omega)]
    simp only []
    rw [show 3600 * (s / 3600) + 60 * (s / 60 % 60) + s % 60 = s by omega]
  rw [hc, Option.bind_some]
  have hz : znB [90] = some (true, 0) := by decide
  rw [hz, Option.map_some]
  unfold nxM
  rw [if_neg (by simp only []; omega)]
theorem pt_nb {n c : Int} (r : List Int) (h0 : 0 ≤ n) (h1 : n ≤ 999999999) (hc : isD c = false) (f : Nat) (hf : f = 8) : ptB c (nbF f n ++ c :: r) = some ((n, true), r) := by
  subst hf
  obtain ⟨a, b, d⟩ := nb_val 8 n h0 (by rw [show (10 : Int) ^ (8 + 1) = 1000000000 by decide]; omega)
  have hg : dgs (nbF 8 n ++ c :: r) = (nbF 8 n).length := dgs_app (nb_dig 8 n) (by intro x hx; simp at hx; subst hx; exact hc)
  unfold ptB
  rw [hg]
  have e1 : (nbF 8 n ++ c :: r).drop (nbF 8 n).length = c :: r := by simp
  have e2 : (nbF 8 n ++ c :: r).take (nbF 8 n).length = nbF 8 n := by simp
  have e3 : (nbF 8 n ++ c :: r).drop ((nbF 8 n).length + 1) = r := by rw [← List.drop_drop, e1]; rfl
  rw [e1, e2, e3, if_neg (fun h => h.elim (fun h => by omega) (fun h => h rfl)), if_neg (by omega), a]
/-- A span's text out of its parts. -/
def spB (y m d h n s : Int) : List Int := 80 :: (nbF 8 y ++ (89 :: (nbF 8 m ++ (77 :: (nbF 8 d ++ (68 :: 84 :: (nbF 8 h ++ (72 :: (nbF 8 n ++ (77 :: (nbF 8 s ++ [46, 53, 83])))))))))))
theorem tm_pr {h n s : Int} (h0 : 0 ≤ h) (h1 : h ≤ 999999999) (n0 : 0 ≤ n) (n1 : n ≤ 999999999) (s0 : 0 ≤ s) (s1 : s ≤ 999999999) : tmB (nbF 8 h ++ (72 :: (nbF 8 n ++ (77 :: (nbF 8 s ++ [46, 53, 83]))))) = some (3600 * h + 60 * n + s, 500000000) := by
  obtain ⟨a, b, c⟩ := nb_val 8 s s0 (by rw [show (10 : Int) ^ (8 + 1) = 1000000000 by decide]; omega)
  have hg : dgs (nbF 8 s ++ [46, 53, 83]) = (nbF 8 s).length := dgs_app (nb_dig 8 s) (by intro x hx; simp at hx; subst hx; decide)
  have hs : scB (nbF 8 s ++ [46, 53, 83]) = some (s, 500000000) := by
    unfold scB
    rw [hg, if_neg (by omega), nm_app (nb_dig 8 s), a, Option.bind_some]
    have : frB [46, 53, 83] = some (500000000, [83]) := by decide
    rw [this, Option.bind_some, tk_cons, Option.bind_some, if_pos rfl]
  unfold tmB
  rw [pt_nb _ h0 h1 (by decide) 8 rfl, Option.bind_some, pt_nb _ n0 n1 (by decide) 8 rfl, Option.bind_some, if_neg (by simp), hs, Option.map_some]
theorem sp_pr {y m d h n s : Int} (y0 : 0 ≤ y) (y1 : y ≤ 999999999) (m0 : 0 ≤ m) (m1 : m ≤ 999999999) (d0 : 0 ≤ d) (d1 : d ≤ 999999999) (h0 : 0 ≤ h) (h1 : h ≤ 999999999) (n0 : 0 ≤ n) (n1 : n ≤ 999999999) (s0 : 0 ≤ s) (s1 : s ≤ 999999999) :
    prP (spB y m d h n s) = some ⟨12 * y + m, 86400 * d + (3600 * h + 60 * n + s), 500000000⟩ ∧ prP (45 :: spB y m d h n s) = some ⟨-(12 * y + m), -(86400 * d + (3600 * h + 60 * n + s)), -500000000⟩ := by
  constructor
  · unfold prP spB
    have hh : (80 :: (nbF 8 y ++ (89 :: (nbF 8 m ++ (77 :: (nbF 8 d ++ (68 :: 84 :: (nbF 8 h ++ (72 :: (nbF 8 n ++ (77 :: (nbF 8 s ++ [46, 53, 83])))))))))))).head? ≠ some 45 := by simp
    simp only [if_neg hh]
    rw [tk_cons, Option.bind_some, pt_nb _ y0 y1 (by decide) 8 rfl, Option.bind_some, pt_nb _ m0 m1 (by decide) 8 rfl, Option.bind_some, pt_nb _ d0 d1 (by decide) 8 rfl, Option.bind_some]
    simp only [List.head?_cons, List.tail_cons, if_true]
    rw [tm_pr h0 h1 n0 n1 s0 s1, Option.map_some]
  · unfold prP spB
    simp only [List.head?_cons, List.tail_cons, if_true]
    rw [tk_cons, Option.bind_some, pt_nb _ y0 y1 (by decide) 8 rfl, Option.bind_some, pt_nb _ m0 m1 (by decide) 8 rfl, Option.bind_some, pt_nb _ d0 d1 (by decide) 8 rfl, Option.bind_some]
    simp only [List.head?_cons, List.tail_cons, if_true]
    rw [tm_pr h0 h1 n0 n1 s0 s1, Option.map_some]
end Go.Proofs.Ytijcbgjlofcdfab
