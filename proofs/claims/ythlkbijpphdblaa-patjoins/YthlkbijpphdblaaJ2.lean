/- Patterns put together of others: their trees. -/
import Derived.Test.YthlkbijpphdblaaJ1
namespace Go.Proofs.Ythlkbijpphdblaa
set_option linter.unusedVariables false

theorem gd_in (pre t : Bs) (j : Nat) : (pre ++ t).getD (pre.length + j) 0 = t.getD j 0 := by
  rw [List.getD_eq_getElem?_getD, List.getD_eq_getElem?_getD, List.getElem?_append_right (by omega), Nat.add_sub_cancel_left]
theorem pk_in {l pre t : Bs} {k j : Nat} {c : Int} (hl : l = pre ++ t) (hk : k = pre.length + j) (hj : j < t.length) (h : t.getD j 0 = c) (hc : c < 128) : pkS l k = .ok c k := by
  subst hl hk
  exact pk_plain (by simp; omega) (by rw [gd_in]; exact h) hc
theorem sk_at {l : Bs} {k : Nat} {c d : Int} (h : l.getD k 0 = d) (hd : d ≠ c) : skB l c k = false := by
  unfold skB
  rw [h]
  simp
  omega
theorem sk_on {l : Bs} {k : Nat} {c : Int} (hk : k < l.length) (h : l.getD k 0 = c) : skB l c k = true := by
  unfold skB
  rw [h]
  simp
  omega
theorem sk_end {l : Bs} {k : Nat} {c : Int} (h : l.length ≤ k) : skB l c k = false := by
  unfold skB
  simp
  omega
theorem tim_end {l : Bs} {k : Nat} (h : l.length ≤ k) : timS l k = .ok (0, 0, false) k := by
  unfold timS
  rw [sk_end h, sk_end h, sk_end h, sk_end h]
  rfl
theorem tim_at {l : Bs} {k : Nat} {d : Int} (h : l.getD k 0 = d) (h1 : d ≠ 63) (h2 : d ≠ 42) (h3 : d ≠ 43) (h4 : d ≠ 123) : timS l k = .ok (0, 0, false) k := by
  unfold timS
  rw [sk_at h h1, sk_at h h2, sk_at h h3, sk_at h h4]
  rfl
theorem go_at {l : Bs} {k : Nat} {d : Int} (hk : k < l.length) (h : l.getD k 0 = d) (hd : d < 128) : goS l k = .ok (d != 124 && d != 41) k := by
  unfold goS
  rw [if_neg (by omega), pk_plain hk h hd]
  rfl
theorem go_end (l : Bs) : goS l l.length = .ok false l.length := by
  unfold goS
  rw [if_pos rfl]
theorem pcs_step {at' : Nat → R Nd} {l : Bs} {f k k1 k2 : Nat} {acc : List Nd} {x : Nd} {u : Int × Int × Bool} (h : goS l k = .ok true k) (h1 : at' k = .ok x k1) (h2 : timS l k1 = .ok u k2) : pcsS at' l (f + 1) acc k = pcsS at' l f (acc ++ [if u.2.2 = true then .nd 5 [] u.1 u.2.1 [x] else x]) k2 := by
  simp only [pcsS]
  rw [h, R.bind_ok, if_pos rfl]
  unfold pieS
  rw [h1, R.bind_ok, h2, R.bind_ok, R.bind_ok]
theorem pcs_badj {at' : Nat → R Nd} {l : Bs} {f k : Nat} {acc : List Nd} {i e : Int} (h : goS l k = .ok true k) (h1 : at' k = .bad i e) : pcsS at' l (f + 1) acc k = .bad i e := by
  simp only [pcsS]
  rw [h, R.bind_ok, if_pos rfl]
  unfold pieS
  rw [h1, R.bind_bad, R.bind_bad]
theorem pcs_endj {at' : Nat → R Nd} {l : Bs} {f k : Nat} {acc : List Nd} (h : goS l k = .ok false k) : pcsS at' l (f + 1) acc k = .ok (mkRow acc) k := by
  simp only [pcsS]
  rw [h, R.bind_ok, if_neg (by decide)]
theorem als_endj {at' : Nat → R Nd} {l : Bs} {f k : Nat} {acc : List Nd} (h : skB l 124 k = false) : alsS at' l (f + 1) acc k = .ok (mkAlt acc) k := by
  simp only [alsS]
  rw [h, if_neg (by decide)]
/-- A pattern in brackets, in two texts. -/
theorem paren2 {a L M pre1 post1 pre2 post2 : Bs} {x : Nd} {ka : Nat} (ha : parS a = .ok x ka) (hL : L = pre1 ++ 40 :: (a ++ 41 :: post1)) (hM : M = pre2 ++ 40 :: (a ++ 41 :: post2)) :
    (atomS L 41 0 pre1.length = .ok x (pre1.length + a.length + 2) ∧ atomS M 41 0 pre2.length = .ok x (pre2.length + a.length + 2)) ∨ ∃ i j, atomS L 41 0 pre1.length = .bad i 3 ∧ atomS M 41 0 pre2.length = .bad j 3 := by
  have hL' : L = (pre1 ++ [40]) ++ (a ++ 41 :: post1) := by rw [hL]; simp
  have hM' : M = (pre2 ++ [40]) ++ (a ++ 41 :: post2) := by rw [hM]; simp
  have E : Ex2 a L M (pre1.length + 1) (pre2.length + 1) := by
    have h1 := Ex.mk' (pre1 ++ [40]) a post1
    have h2 := Ex.mk' (pre2 ++ [40]) a post2
    rw [← hL'] at h1
    rw [← hM'] at h2
    simp only [List.length_append, List.length_cons, List.length_nil] at h1 h2
    exact ⟨h1, h2⟩
  have hw : patS (atomS a 41 0) a 0 = .ok x a.length := by
    unfold parS at ha
    split at ha
    · cases ha
    · unfold whS at ha
      cases hp : patS (atomS a 41 0) a 0 with
      | bad i e => rw [hp] at ha; cases ha
      | ok y k =>
        rw [hp, R.bind_ok] at ha
        split at ha
        · rename_i hk
          injection ha with h1 h2
          rw [h1, hk]
        · cases ha
  have hp := E.pat3 (f := atomS a 41 0) (g := atomS L 40 1) (h := atomS M 40 1) (fun k kp kq hp hq => E.atom3 40 0 k kp kq (by omega) (by omega) hp hq) (k := 0) rfl rfl
  rw [hw] at hp
  have one : ∀ (W pre post : Bs), W = pre ++ 40 :: (a ++ 41 :: post) → (patS (atomS W 40 1) W (pre.length + 1 + 0) = .ok x (pre.length + 1 + a.length) → atomS W 41 0 pre.length = .ok x (pre.length + a.length + 2)) ∧ ∀ i, patS (atomS W 40 1) W (pre.length + 1 + 0) = .bad i 3 → atomS W 41 0 pre.length = .bad i 3 := by
    intro W pre post hW
    have hlen : W.length = pre.length + a.length + post.length + 2 := by rw [hW]; simp; omega
    have hl : letS W pre.length = .ok (40, 1) pre.length := let_plain (by omega) (by rw [hW, show pre.length = pre.length + 0 by omega, gd_in]; rfl) (by decide)
    have h41 : pkS W (pre.length + 1 + a.length) = .ok 41 (pre.length + 1 + a.length) := by
      refine pk_in (pre := pre ++ 40 :: a) (t := 41 :: post) (j := 0) (by rw [hW]; simp) (by simp; omega) (by simp) rfl (by decide)
    refine ⟨fun h => ?_, fun i h => ?_⟩
    · unfold atomS
      rw [hl, R.bind_ok, if_pos rfl]
      unfold entS
      rw [if_neg (by decide), R.bind_ok]
      rw [Nat.add_zero] at h
      rw [h, R.bind_ok]
      unfold sgnS
      rw [h41, R.bind_ok, if_pos rfl, R.bind_ok]
      congr 1
      omega
    · unfold atomS
      rw [hl, R.bind_ok, if_pos rfl]
      unfold entS
      rw [if_neg (by decide), R.bind_ok]
      rw [Nat.add_zero] at h
      rw [h, R.bind_bad]
  obtain ⟨o1, b1⟩ := one L pre1 post1 hL
  obtain ⟨o2, b2⟩ := one M pre2 post2 hM
  rcases hp with ⟨_, h1, h2⟩ | ⟨i, j, h1, h2⟩
  · exact .inl ⟨o1 h1, o2 h2⟩
  · exact .inr ⟨i, j, b1 _ h1, b2 _ h2⟩
/-- Digits of a number. -/
def dcF : Nat → Nat → Bs
  | 0, _ => []
  | f + 1, n => if n < 10 then [48 + (n : Int)] else dcF f (n / 10) ++ [48 + ((n % 10 : Nat) : Int)]
def dcS (n : Nat) : Bs := dcF 20 n
theorem num_one {l : Bs} {op n r : Int} {f c k : Nat} (h : pkS l k = .ok r k) (h1 : 48 ≤ r ∧ r ≤ 57) (h2 : ¬ (4 < c + 1 ∨ 1000 < 10 * n + (r - 48))) : numS l op (f + 1) n c k = numS l op f (10 * n + (r - 48)) (c + 1) (k + 1) := by
  simp only [numS]
  rw [h, R.bind_ok, if_pos h1, if_neg h2]
theorem num_end {l : Bs} {op n r : Int} {f c k : Nat} (h : pkS l k = .ok r k) (h1 : ¬ (48 ≤ r ∧ r ≤ 57)) (h2 : c ≠ 0) : numS l op (f + 1) n c k = .ok n k := by
  simp only [numS]
  rw [h, R.bind_ok, if_neg h1, if_neg h2]
theorem num_dc {l pre post : Bs} {n : Nat} {op c : Int} (hn : n ≤ 1000) (hl : l = pre ++ (dcS n ++ c :: post)) (hc : c < 128 ∧ ¬ (48 ≤ c ∧ c ≤ 57)) : numS l op 6 0 0 pre.length = .ok (n : Int) (pre.length + (dcS n).length) := by
  rcases Nat.lt_or_ge n 10 with h1 | h1
  · have e : dcS n = [48 + (n : Int)] := by unfold dcS dcF; rw [if_pos h1]
    rw [e] at hl ⊢
    refine (num_one (r := 48 + (n : Int)) (pk_in (k := pre.length) (j := 0) hl (by omega) (by simp) rfl (by omega)) (by omega) (by omega)).trans ?_
    refine (num_end (r := c) (pk_in (k := pre.length + 1) (j := 1) hl (by omega) (by simp) rfl (by omega)) (by omega) (by omega)).trans ?_
    congr 1
    omega
  rcases Nat.lt_or_ge n 100 with h2 | h2
  · have e : dcS n = [48 + ((n / 10 : Nat) : Int), 48 + ((n % 10 : Nat) : Int)] := by
      unfold dcS dcF
      rw [if_neg (by omega)]
      unfold dcF
      rw [if_pos (by omega)]
      rfl
    rw [e] at hl ⊢
    refine (num_one (r := 48 + ((n / 10 : Nat) : Int)) (pk_in (k := pre.length) (j := 0) hl (by omega) (by simp) rfl (by omega)) (by omega) (by omega)).trans ?_
    refine (num_one (r := 48 + ((n % 10 : Nat) : Int)) (pk_in (k := pre.length + 1) (j := 1) hl (by omega) (by simp) rfl (by omega)) (by omega) (by omega)).trans ?_
    refine (num_end (r := c) (pk_in (k := pre.length + 1 + 1) (j := 2) hl (by omega) (by simp) rfl (by omega)) (by omega) (by omega)).trans ?_
    congr 1
    omega
  rcases Nat.lt_or_ge n 1000 with h3 | h3
  · have e : dcS n = [48 + ((n / 10 / 10 : Nat) : Int), 48 + ((n / 10 % 10 : Nat) : Int), 48 + ((n % 10 : Nat) : Int)] := by
      unfold dcS dcF
      rw [if_neg (by omega)]
      unfold dcF
      rw [if_neg (by omega)]
      unfold dcF
      rw [if_pos (by omega)]
      rfl
    rw [e] at hl ⊢
    refine (num_one (r := 48 + ((n / 10 / 10 : Nat) : Int)) (pk_in (k := pre.length) (j := 0) hl (by omega) (by simp) rfl (by omega)) (by omega) (by omega)).trans ?_
    refine (num_one (r := 48 + ((n / 10 % 10 : Nat) : Int)) (pk_in (k := pre.length + 1) (j := 1) hl (by omega) (by simp) rfl (by omega)) (by omega) (by omega)).trans ?_
    refine (num_one (r := 48 + ((n % 10 : Nat) : Int)) (pk_in (k := pre.length + 1 + 1) (j := 2) hl (by omega) (by simp) rfl (by omega)) (by omega) (by omega)).trans ?_
    refine (num_end (r := c) (pk_in (k := pre.length + 1 + 1 + 1) (j := 3) hl (by omega) (by simp) rfl (by omega)) (by omega) (by omega)).trans ?_
    congr 1
    omega
  · have : n = 1000 := by omega
    subst this
    have e : dcS 1000 = [49, 48, 48, 48] := rfl
    rw [e] at hl ⊢
    refine (num_one (r := 49) (pk_in (k := pre.length) (j := 0) hl (by omega) (by simp) rfl (by omega)) (by omega) (by omega)).trans ?_
    refine (num_one (r := 48) (pk_in (k := pre.length + 1) (j := 1) hl (by omega) (by simp) rfl (by omega)) (by omega) (by omega)).trans ?_
    refine (num_one (r := 48) (pk_in (k := pre.length + 1 + 1) (j := 2) hl (by omega) (by simp) rfl (by omega)) (by omega) (by omega)).trans ?_
    refine (num_one (r := 48) (pk_in (k := pre.length + 1 + 1 + 1) (j := 3) hl (by omega) (by simp) rfl (by omega)) (by omega) (by omega)).trans ?_
    refine (num_end (r := c) (pk_in (k := pre.length + 1 + 1 + 1 + 1) (j := 4) hl (by omega) (by simp) rfl (by omega)) (by omega) (by omega)).trans ?_
    rfl
end Go.Proofs.Ythlkbijpphdblaa
