/- Digits set in place: plain. -/
import Derived.Test.YtakemkhgaicckaaDoorQ0
namespace Go.Proofs.YtakemkhgaicckaaDoor
set_option linter.unusedVariables false
set_option linter.unusedSimpArgs false

theorem dval_set : ∀ {l : List Int} {i : Nat} (hi : i < l.length) (d : Int), dval (l.set i d) = dval l + (d - l[i]'hi) * p10 (l.length - 1 - i)
  | x :: l, 0, hi, d => by
    rw [List.set_cons_zero, dval_cons, dval_cons]
    simp only [List.getElem_cons_zero, List.length_cons]
    have e : l.length + 1 - 1 - 0 = l.length := by omega
    rw [e, Int.sub_mul]
    omega
  | x :: l, i + 1, hi, d => by
    have hi' : i < l.length := by simpa using hi
    rw [List.set_cons_succ, dval_cons, dval_cons, dval_set hi' d]
    simp only [List.getElem_cons_succ, List.length_cons, List.length_set]
    have e : l.length + 1 - 1 - (i + 1) = l.length - 1 - i := by omega
    rw [e]
    omega
/-- What the first so many digits count, in their places. -/
def tkv (o : List Int) (i : Nat) : Int := dval (o.take i) * p10 (o.length - i)
theorem tk_zero (o : List Int) : tkv o 0 = 0 := by simp [tkv, dval_nil]
theorem tk_full (o : List Int) : tkv o o.length = dval o := by simp [tkv, p10]
theorem tk_succ {o : List Int} {i : Nat} (hi : i < o.length) : tkv o (i + 1) = tkv o i + o[i]'hi * p10 (o.length - 1 - i) := by
  unfold tkv
  rw [List.take_succ_eq_append_getElem hi, dval_snoc]
  have e1 : o.length - (i + 1) = o.length - 1 - i := by omega
  have e2 : o.length - i = (o.length - 1 - i) + 1 := by omega
  rw [e1, e2, p10_succ, Int.add_mul, Int.mul_assoc, Int.mul_comm 10]
theorem tk_nn {o : List Int} (h : Dg o) (i : Nat) : 0 ≤ tkv o i := by
  unfold tkv
  have h1 := (dval_bd (l := o.take i) (fun d hd => h d (List.mem_of_mem_take hd))).1
  have h2 := p10_pos (o.length - i)
  exact Int.mul_nonneg h1 (by omega)
/-- Digits, but for the one at a place, which may be up to 19. -/
def Dg1 (l : List Int) (k : Nat) : Prop := ∀ p (hp : p < l.length), 0 ≤ l[p]'hp ∧ l[p]'hp ≤ 19 ∧ (p ≠ k → l[p]'hp ≤ 9)
theorem Dg1.dg {l : List Int} {k : Nat} (h : Dg1 l k) (hk : k < l.length) (h9 : l[k]'hk ≤ 9) : Dg l := fun d hd => by
  obtain ⟨p, hp, rfl⟩ := List.mem_iff_getElem.1 hd
  obtain ⟨a, b, c⟩ := h p hp
  by_cases e : p = k
  · subst e; exact ⟨a, h9⟩
  · exact ⟨a, c e⟩
theorem dval_nn1 : ∀ {l : List Int}, (∀ p (hp : p < l.length), 0 ≤ l[p]'hp) → 0 ≤ dval l
  | [], _ => by simp [dval_nil]
  | x :: l, h => by
    rw [dval_cons]
    have h0 := h 0 (by simp)
    have h1 := dval_nn1 (l := l) (fun p hp => by have := h (p + 1) (by simp; omega); simpa using this)
    have h2 := p10_pos l.length
    simp at h0
    have := Int.mul_nonneg h0 (by omega : 0 ≤ p10 l.length)
    omega
theorem Dg1.of {l : List Int} {j : Nat} {e : Int} (h : Dg l) (hj : j < l.length) (he : 0 ≤ e ∧ e ≤ 9) : Dg1 (l.set j (l[j]'hj + e)) j := fun p hp => by
  have hp' : p < l.length := by simpa using hp
  have hd := h _ (List.getElem_mem hp')
  have hdj := h _ (List.getElem_mem hj)
  rw [List.getElem_set]
  split
  · rename_i q
    exact ⟨by omega, by omega, fun r => absurd q.symm r⟩
  · exact ⟨by omega, by omega, fun _ => hd.2⟩
/-- A carry goes one place ahead. -/
theorem carry {l : List Int} {k : Nat} (h : Dg1 l (k + 1)) (hk : k + 1 < l.length) (h10 : 9 < l[k + 1]'hk) :
    Dg1 ((l.set (k + 1) (l[k + 1]'hk - 10)).set k (l[k]'(by omega) + 1)) k ∧ dval ((l.set (k + 1) (l[k + 1]'hk - 10)).set k (l[k]'(by omega) + 1)) = dval l := by
  constructor
  · intro p hp
    have hp' : p < l.length := by simpa using hp
    have h1 := h p hp'
    have h2 := h (k + 1) hk
    have h3 := h k (by omega)
    rw [List.getElem_set]
    split
    · rename_i q
      have := h3.2.2 (by omega)
      exact ⟨by omega, by omega, fun r => absurd q.symm r⟩
    · rw [List.getElem_set]
      split
      · rename_i q
        exact ⟨by omega, by omega, fun _ => by omega⟩
      · rename_i q
        exact ⟨h1.1, h1.2.1, fun _ => h1.2.2 (fun e => q e.symm)⟩
  · have hk0 : k < (l.set (k + 1) (l[k + 1]'hk - 10)).length := by simp; omega
    rw [dval_set hk0, dval_set hk]
    have e0 : (l.set (k + 1) (l[k + 1]'hk - 10))[k]'hk0 = l[k]'(by omega) := by rw [List.getElem_set]; rw [if_neg (by omega)]
    rw [e0, List.length_set]
    have e1 : l.length - 1 - k = (l.length - 1 - (k + 1)) + 1 := by omega
    rw [e1, p10_succ]
    have : l[k + 1]'hk - 10 - l[k + 1]'hk = -10 := by omega
    rw [this]
    have : l[k]'(by omega) + 1 - l[k]'(by omega) = 1 := by omega
    rw [this]
    omega
theorem carry_top {l : List Int} (h : Dg1 l 0) (h0 : 0 < l.length) (h10 : 9 < l[0]'h0) : p10 l.length ≤ dval l := by
  cases l with
  | nil => simp at h0
  | cons x l =>
    simp only [List.getElem_cons_zero] at h10
    rw [dval_cons, List.length_cons, p10_succ]
    have h1 := dval_nn1 (l := l) (fun p hp => by have := (h (p + 1) (by simp; omega)).1; simpa using this)
    have h2 := p10_pos l.length
    have : 10 * p10 l.length ≤ x * p10 l.length := Int.mul_le_mul_of_nonneg_right (by omega) (by omega)
    omega
theorem plus_in {rl ol : List Int} {j : Nat} {V : Int} (hj : j < rl.length) (hl : ol.length = rl.length) (h : dval rl + tkv ol (j + 1) = V) : dval (rl.set j (rl[j]'hj + ol[j]'(by omega))) + tkv ol j = V := by
  have e0 : ol.length - 1 - j = rl.length - 1 - j := by omega
  rw [dval_set hj, ← h, tk_succ (by omega : j < ol.length), e0]
  have : rl[j]'hj + ol[j]'(by omega) - rl[j]'hj = ol[j]'(by omega) := by omega
  rw [this]
  omega
theorem minus_in {rl ol : List Int} {j : Nat} {V : Int} (hj : j < rl.length) (hl : ol.length = rl.length) (h : dval rl - tkv ol (j + 1) = V) : dval (rl.set j (rl[j]'hj - ol[j]'(by omega))) - tkv ol j = V := by
  have e0 : ol.length - 1 - j = rl.length - 1 - j := by omega
  rw [dval_set hj, ← h, tk_succ (by omega : j < ol.length), e0]
  have : rl[j]'hj - ol[j]'(by omega) - rl[j]'hj = -(ol[j]'(by omega)) := by omega
  rw [this, Int.neg_mul]
  omega
theorem minus_out {rl ol : List Int} {j : Nat} {V : Int} (hj : j < rl.length) (hl : ol.length = rl.length) (h : dval rl - tkv ol (j + 1) = V) : dval (rl.set j (rl[j]'hj + (10 - ol[j]'(by omega)))) - p10 (rl.length - j) - tkv ol j = V := by
  have e0 : ol.length - 1 - j = rl.length - 1 - j := by omega
  rw [dval_set hj, ← h, tk_succ (by omega : j < ol.length), e0]
  have e1 : rl.length - j = (rl.length - 1 - j) + 1 := by omega
  rw [e1, p10_succ]
  have : rl[j]'hj + (10 - ol[j]'(by omega)) - rl[j]'hj = 10 - ol[j]'(by omega) := by omega
  rw [this, Int.sub_mul]
  omega
theorem lend {rl : List Int} {k : Nat} {X V : Int} (hk : k < rl.length) (h : dval rl - p10 (rl.length - (k + 1)) - X = V) : dval (rl.set k (rl[k]'hk - 1)) - X = V := by
  rw [dval_set hk]
  have e : rl.length - (k + 1) = rl.length - 1 - k := by omega
  rw [e] at h
  have : rl[k]'hk - 1 - rl[k]'hk = -1 := by omega
  rw [this]
  omega
theorem lend_on {rl : List Int} {k : Nat} {X V : Int} (hk : k < rl.length) (h0 : rl[k]'hk = 0) (h : dval rl - p10 (rl.length - (k + 1)) - X = V) : dval (rl.set k 9) - p10 (rl.length - k) - X = V := by
  rw [dval_set hk, h0]
  have e : rl.length - (k + 1) = rl.length - 1 - k := by omega
  have e1 : rl.length - k = (rl.length - 1 - k) + 1 := by omega
  rw [e] at h
  rw [e1, p10_succ]
  omega
theorem dg_set' {l : List Int} {i : Nat} {d : Int} (h : Dg l) (hd : 0 ≤ d ∧ d ≤ 9) : Dg (l.set i d) := fun x hx => by
  rcases List.mem_or_eq_of_mem_set hx with q | q
  · exact h x q
  · rw [q]; exact hd
end Go.Proofs.YtakemkhgaicckaaDoor
