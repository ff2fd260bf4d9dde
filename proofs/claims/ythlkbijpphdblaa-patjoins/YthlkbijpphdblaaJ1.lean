/- A text that stands within two others, a bracket behind it: what a reader tells of it there, or too many brackets in both. -/
import Derived.Test.YthlkbijpphdblaaC4
namespace Go.Proofs.Ythlkbijpphdblaa
set_option linter.unusedVariables false

theorem dec_app {l : List Int} (t : List Int) (h : (dec l).2 ≠ 0) : dec (l ++ t) = dec l := by
  have hg : ∀ i, i < l.length → (l ++ t).getD i 0 = l.getD i 0 := fun i hi => by
    rw [List.getD_eq_getElem?_getD, List.getD_eq_getElem?_getD, List.getElem?_append_left hi]
  have hl : (l ++ t).length = l.length + t.length := by simp
  unfold dec at h ⊢
  by_cases c0 : l.length = 0
  · rw [if_pos c0] at h; simp at h
  rw [if_neg c0] at h ⊢
  rw [if_neg (by omega), hg 0 (by omega)]
  by_cases c1 : l.getD 0 0 < 128
  · rw [if_pos c1, if_pos c1]
  rw [if_neg c1] at h ⊢
  rw [if_neg c1]
  by_cases c2 : l.getD 0 0 < 192
  · rw [if_pos c2] at h; simp at h
  rw [if_neg c2] at h ⊢
  rw [if_neg c2]
  by_cases c3 : l.getD 0 0 < 224
  · rw [if_pos c3] at h ⊢
    rw [if_pos c3]
    by_cases d : 2 ≤ l.length
    · rw [if_pos d, if_pos (by omega), hg 1 (by omega)]
    · rw [if_neg d] at h; simp at h
  rw [if_neg c3] at h ⊢
  rw [if_neg c3]
  by_cases c4 : l.getD 0 0 < 240
  · rw [if_pos c4] at h ⊢
    rw [if_pos c4]
    by_cases d : 3 ≤ l.length
    · rw [if_pos d, if_pos (by omega), hg 1 (by omega), hg 2 (by omega)]
    · rw [if_neg d] at h; simp at h
  rw [if_neg c4] at h ⊢
  rw [if_neg c4]
  by_cases c5 : l.getD 0 0 < 248
  · rw [if_pos c5] at h ⊢
    rw [if_pos c5]
    by_cases d : 4 ≤ l.length
    · rw [if_pos d, if_pos (by omega), hg 1 (by omega), hg 2 (by omega), hg 3 (by omega)]
    · rw [if_neg d] at h; simp at h
  · rw [if_neg c5] at h; simp at h
theorem gd_at (l : Bs) (k : Nat) : (l.drop k).getD 0 0 = l.getD k 0 := by simp [List.getD_eq_getElem?_getD]
/-- A plain letter at a place. -/
theorem at_plain {l : Bs} {k : Nat} {c : Int} (hk : k < l.length) (h : l.getD k 0 = c) (hc : c < 128) : ln l k = 1 ∧ lt l k = c := by
  have : dec (l.drop k) = (c, 1) := by
    unfold dec
    rw [if_neg (by simp; omega), gd_at, h, if_pos hc]
  unfold ln lt
  rw [this]
  exact ⟨rfl, rfl⟩
theorem let_plain {l : Bs} {k : Nat} {c : Int} (hk : k < l.length) (h : l.getD k 0 = c) (hc : c < 128) : letS l k = .ok (c, 1) k := by
  obtain ⟨h1, h2⟩ := at_plain hk h hc
  unfold letS
  rw [h1, h2]
  rfl
theorem pk_plain {l : Bs} {k : Nat} {c : Int} (hk : k < l.length) (h : l.getD k 0 = c) (hc : c < 128) : pkS l k = .ok c k := by
  unfold pkS
  rw [let_plain hk h hc]
  rfl
/-- a stands in L at p, a bracket behind it. -/
structure Ex (a L : Bs) (p : Nat) : Prop where
  le : ∀ k, ln a k ≠ 0 → ln L (p + k) = ln a k ∧ lt L (p + k) = lt a k
  ge : ∀ k, k < a.length → L.getD (p + k) 0 = a.getD k 0
  g1 : L.getD (p + a.length) 0 = 41
  len : p + a.length < L.length
  sb : ∀ i j, j ≤ a.length → sub L (p + i) (p + j) = sub a i j
theorem drop_in (pre a t : Bs) (k : Nat) (hk : k ≤ a.length) : (pre ++ (a ++ t)).drop (pre.length + k) = a.drop k ++ t := by
  rw [← List.drop_drop, List.drop_left, List.drop_append_of_le_length hk]
theorem Ex.mk' (pre a post : Bs) : Ex a (pre ++ (a ++ 41 :: post)) pre.length := by
  refine ⟨fun k hk => ?_, fun k hk => ?_, ?_, ?_, fun i j hj => ?_⟩
  · have hl := ln_end hk
    unfold ln lt at *
    rw [drop_in pre a _ k (by omega), dec_app _ (by intro e; apply hk; rw [e]; rfl)]
    exact ⟨rfl, rfl⟩
  · rw [List.getD_eq_getElem?_getD, List.getD_eq_getElem?_getD, List.getElem?_append_right (by omega), Nat.add_sub_cancel_left, List.getElem?_append_left hk]
  · rw [List.getD_eq_getElem?_getD, List.getElem?_append_right (by omega), Nat.add_sub_cancel_left, List.getElem?_append_right (by omega)]
    simp
  · simp
  · unfold sub
    by_cases hi : i ≤ a.length
    · rw [drop_in pre a _ i hi, List.take_append_of_le_length (by simp; omega)]
      congr 1
      omega
    · rw [show pre.length + j - (pre.length + i) = 0 by omega, show j - i = 0 by omega]
      simp
structure Ex2 (a L M : Bs) (p q : Nat) : Prop where
  l : Ex a L p
  m : Ex a M q
/-- What the first tells the others tell, so many places on; or there are too many brackets in both. -/
def L3 {α : Type} (n p q : Nat) (x y z : R α) : Prop := match x with
  | .ok v k => (k ≤ n ∧ y = .ok v (p + k) ∧ z = .ok v (q + k)) ∨ ∃ i j, y = .bad i 3 ∧ z = .bad j 3
  | .bad _ _ => True
theorem L3.ok {α : Type} {n p q k kp kq : Nat} {v : α} (hk : k ≤ n) (hp : kp = p + k) (hq : kq = q + k) : L3 n p q (.ok v k) (.ok v kp) (.ok v kq) := by
  subst hp hq
  exact .inl ⟨hk, rfl, rfl⟩
theorem L3.bad {α : Type} {n p q : Nat} {i e : Int} {y z : R α} : L3 n p q (.bad i e) y z := trivial
theorem L3.bind {α β : Type} {n p q : Nat} {x y z : R α} {f g h : α → Nat → R β} (hx : L3 n p q x y z) (hf : ∀ v k kp kq, x = .ok v k → y = .ok v kp → k ≤ n → kp = p + k → kq = q + k → L3 n p q (f v k) (g v kp) (h v kq)) : L3 n p q (x.bind f) (y.bind g) (z.bind h) := by
  cases x with
  | bad i e => trivial
  | ok v k =>
    rcases hx with ⟨hk, h1, h2⟩ | ⟨i, j, h1, h2⟩
    · rw [h1, h2]
      exact hf v k _ _ rfl h1 hk rfl rfl
    · rw [h1, h2, R.bind_ok, R.bind_bad, R.bind_bad]
      cases hfv : f v k with
      | bad i e => trivial
      | ok v' k' => exact .inr ⟨i, j, rfl, rfl⟩
theorem L3.ite {α : Type} {n p q : Nat} {c : Prop} [Decidable c] {x y z x' y' z' : R α} (h : c → L3 n p q x y z) (h' : ¬ c → L3 n p q x' y' z') : L3 n p q (if c then x else x') (if c then y else y') (if c then z else z') := by
  by_cases hc : c
  · rw [if_pos hc, if_pos hc, if_pos hc]; exact h hc
  · rw [if_neg hc, if_neg hc, if_neg hc]; exact h' hc
/-- The readers. -/
theorem let_okj {a : Bs} {k k' : Nat} {v : Int × Nat} (h : letS a k = .ok v k') : k' = k ∧ k + v.2 ≤ a.length ∧ k < a.length ∧ v.2 ≠ 0 := by
  unfold letS at h
  split at h
  · cases h
  · rename_i hn
    injection h with h1 h2
    subst h1 h2
    have := ln_end hn
    exact ⟨rfl, ln_le a k (by omega), this, hn⟩
theorem pk_ok {a : Bs} {k k' : Nat} {v : Int} (h : pkS a k = .ok v k') : k' = k ∧ k < a.length := by
  unfold pkS at h
  cases hr : letS a k with
  | bad p e => rw [hr] at h; cases h
  | ok p k1 =>
    rw [hr] at h
    obtain ⟨rfl, _, h3, _⟩ := let_okj hr
    injection h with h1 h2
    exact ⟨h2.symm, h3⟩
section
variable {a L M : Bs} {p q : Nat}
theorem Ex2.let3 (E : Ex2 a L M p q) {k kp kq : Nat} (hp : kp = p + k) (hq : kq = q + k) : L3 a.length p q (letS a k) (letS L kp) (letS M kq) := by
  subst hp hq
  unfold letS
  by_cases h : ln a k = 0
  · rw [if_pos h]; trivial
  · obtain ⟨h1, h2⟩ := E.l.le k h
    obtain ⟨h3, h4⟩ := E.m.le k h
    rw [if_neg h, h1, h2, h3, h4, if_neg h, if_neg h]
    exact .inl ⟨by have := ln_end h; omega, rfl, rfl⟩
theorem Ex2.pk3 (E : Ex2 a L M p q) {k kp kq : Nat} (hp : kp = p + k) (hq : kq = q + k) : L3 a.length p q (pkS a k) (pkS L kp) (pkS M kq) := by
  unfold pkS
  exact (E.let3 hp hq).bind fun v k kp kq _ _ hk hp hq => L3.ok hk hp hq
theorem Ex.sk (E : Ex a L p) {k kp : Nat} {c : Int} (hp : kp = p + k) (hk : k ≤ a.length) (hc : c ≠ 41) : skB L c kp = skB a c k := by
  subst hp
  unfold skB
  have hl := E.len
  by_cases h : k < a.length
  · rw [E.ge k h, decide_eq_true h, decide_eq_true (by omega)]
  · have : k = a.length := by omega
    subst this
    rw [E.g1, decide_eq_false h]
    have : ((41 : Int) == c) = false := by simp; omega
    rw [this]
    simp
theorem Ex2.sgn3 (E : Ex2 a L M p q) (c : Int) {k kp kq : Nat} (hp : kp = p + k) (hq : kq = q + k) : L3 a.length p q (sgnS a c k) (sgnS L c kp) (sgnS M c kq) := by
  unfold sgnS
  refine (E.pk3 hp hq).bind fun v k' kp' kq' h _ hk hp' hq' => ?_
  have := (pk_ok h).2
  exact L3.ite (fun _ => L3.ok (by omega) (by omega) (by omega)) fun _ => L3.bad
theorem Ex2.go3 (E : Ex2 a L M p q) {k kp kq : Nat} (hp : kp = p + k) (hq : kq = q + k) : L3 a.length p q (goS a k) (goS L kp) (goS M kq) := by
  have h1 := E.l.len
  have h2 := E.m.len
  unfold goS
  by_cases h : k = a.length
  · subst h
    rw [if_pos rfl, if_neg (by omega), if_neg (by omega), pk_plain (c := 41) (by omega) (by rw [hp]; exact E.l.g1) (by decide), pk_plain (c := 41) (by omega) (by rw [hq]; exact E.m.g1) (by decide)]
    exact L3.ok (Nat.le_refl _) hp hq
  · by_cases hk : k < a.length
    · rw [if_neg h, if_neg (by omega), if_neg (by omega)]
      exact (E.pk3 hp hq).bind fun v k' kp' kq' h _ hk' hp' hq' => L3.ok (by omega) hp hq
    · rw [if_neg h]
      cases hr : pkS a k with
      | bad i e => trivial
      | ok v k' => exact absurd (pk_ok hr).2 hk
theorem Ex2.num3 (E : Ex2 a L M p q) (op op1 op2 : Int) : ∀ (f : Nat) (n : Int) (c k kp kq : Nat), kp = p + k → kq = q + k → L3 a.length p q (numS a op f n c k) (numS L op1 f n c kp) (numS M op2 f n c kq)
  | 0, n, c, k, kp, kq, hp, hq => L3.bad
  | f + 1, n, c, k, kp, kq, hp, hq => by
    simp only [numS]
    refine (E.pk3 hp hq).bind fun v k' kp' kq' h _ hk hp' hq' => ?_
    have := (pk_ok h).2
    refine L3.ite (fun _ => L3.ite (fun _ => L3.bad) fun _ => ?_) fun _ => L3.ite (fun _ => L3.bad) fun _ => ?_
    · exact E.num3 op op1 op2 f _ _ _ _ _ (by omega) (by omega)
    · exact L3.ok (by omega) hp hq
theorem Ex2.bndE3 (E : Ex2 a L M p q) (op op1 op2 u v : Int) {k kp kq : Nat} (hp : kp = p + k) (hq : kq = q + k) : L3 a.length p q (bndE a op u v k) (bndE L op1 u v kp) (bndE M op2 u v kq) := by
  unfold bndE
  refine (E.pk3 hp hq).bind fun v k' kp' kq' h _ hk hp' hq' => ?_
  have := (pk_ok h).2
  exact L3.ite (fun _ => L3.ok (by omega) (by omega) (by omega)) fun _ => L3.bad
theorem Ex2.bnd3 (E : Ex2 a L M p q) (op op1 op2 : Int) {k kp kq : Nat} (hp : kp = p + k) (hq : kq = q + k) : L3 a.length p q (bndS a op k) (bndS L op1 kp) (bndS M op2 kq) := by
  unfold bndS
  refine (E.num3 op op1 op2 _ _ _ _ _ _ hp hq).bind fun v k' kp' kq' h _ hk hp' hq' => ?_
  rw [E.l.sk hp' hk (by decide), E.m.sk hq' hk (by decide)]
  refine L3.ite (fun _ => (E.pk3 (by omega) (by omega)).bind fun v k1 kp1 kq1 h _ hk1 hp1 hq1 => L3.ite (fun _ => E.bndE3 _ _ _ _ _ (by omega) (by omega)) fun _ => ?_) fun _ => E.bndE3 _ _ _ _ _ hp' hq'
  exact (E.num3 op op1 op2 _ _ _ _ _ _ (by omega) (by omega)).bind fun v k2 kp2 kq2 h _ hk2 hp2 hq2 => E.bndE3 _ _ _ _ _ hp2 hq2
theorem Ex2.tim3 (E : Ex2 a L M p q) {k kp kq : Nat} (hk : k ≤ a.length) (hp : kp = p + k) (hq : kq = q + k) : L3 a.length p q (timS a k) (timS L kp) (timS M kq) := by
  unfold timS
  rw [E.l.sk hp hk (by decide), E.m.sk hq hk (by decide), E.l.sk hp hk (by decide), E.m.sk hq hk (by decide), E.l.sk hp hk (by decide), E.m.sk hq hk (by decide), E.l.sk hp hk (by decide), E.m.sk hq hk (by decide)]
  have hs : ∀ c, skB a c k = true → k < a.length := fun c h => by unfold skB at h; simp at h; exact h.1
  refine L3.ite (fun h => L3.ok (by have := hs _ h; omega) (by omega) (by omega)) fun _ => L3.ite (fun h => L3.ok (by have := hs _ h; omega) (by omega) (by omega)) fun _ => L3.ite (fun h => L3.ok (by have := hs _ h; omega) (by omega) (by omega)) fun _ => L3.ite (fun h => ?_) fun _ => L3.ok hk hp hq
  exact (E.bnd3 _ _ _ (by omega) (by omega)).bind fun v k2 kp2 kq2 h _ hk2 hp2 hq2 => L3.ok hk2 hp2 hq2
theorem nm_lt {a : Bs} : ∀ (f k k2 : Nat) (u : Unit), nmS a f k = .ok u k2 → k2 < a.length
  | 0, k, k2, u, h => by cases h
  | f + 1, k, k2, u, h => by
    simp only [nmS] at h
    cases hr : letS a k with
    | bad p e => rw [hr] at h; cases h
    | ok v k1 =>
      rw [hr, R.bind_ok] at h
      split at h
      · injection h with _ h2
        subst h2
        exact (let_okj hr).2.2.1
      · exact nm_lt f _ _ _ h
theorem Ex2.nm3 (E : Ex2 a L M p q) : ∀ (f f1 f2 k kp kq : Nat), f ≤ f1 → f ≤ f2 → kp = p + k → kq = q + k → L3 a.length p q (nmS a f k) (nmS L f1 kp) (nmS M f2 kq)
  | 0, f1, f2, k, kp, kq, _, _, hp, hq => L3.bad
  | f + 1, f1, f2, k, kp, kq, h1, h2, hp, hq => by
    obtain ⟨f1, rfl⟩ : ∃ x, f1 = x + 1 := ⟨f1 - 1, by omega⟩
    obtain ⟨f2, rfl⟩ : ∃ x, f2 = x + 1 := ⟨f2 - 1, by omega⟩
    simp only [nmS]
    refine (E.let3 hp hq).bind fun v k' kp' kq' h _ hk hp' hq' => ?_
    have := (let_okj h).2
    exact L3.ite (fun _ => L3.ok (by omega) hp hq) fun _ => E.nm3 f f1 f2 _ _ _ (by omega) (by omega) (by omega) (by omega)
theorem Ex2.ctg3 (E : Ex2 a L M p q) (op op1 op2 : Int) {k kp kq : Nat} (hp : kp = p + k) (hq : kq = q + k) : L3 a.length p q (ctgS a op k) (ctgS L op1 kp) (ctgS M op2 kq) := by
  have h1 := E.l.len
  have h2 := E.m.len
  unfold ctgS
  refine (E.sgn3 _ hp hq).bind fun v k' kp' kq' h _ hk hp' hq' => ?_
  refine (E.nm3 _ _ _ _ _ _ (by omega) (by omega) hp' hq').bind fun v k2 kp2 kq2 h _ hk2 hp2 hq2 => ?_
  have := nm_lt _ _ _ _ h
  rw [hp', hq', hp2, hq2, E.l.sb _ _ hk2, E.m.sb _ _ hk2]
  exact L3.ite (fun _ => L3.ok (by omega) (by omega) (by omega)) fun _ => L3.bad
theorem Ex2.ep3 (E : Ex2 a L M p q) {k kp kq : Nat} (hp : kp = p + k) (hq : kq = q + k) : L3 a.length p q (epS a k) (epS L kp) (epS M kq) := by
  unfold epS
  refine (E.let3 (k := k + 1) (by omega) (by omega)).bind fun v k' kp' kq' h _ hk hp' hq' => ?_
  have := (let_okj h).2
  repeat' (first | with_reducible exact L3.bad | (with_reducible refine L3.ite (fun _ => ?_) fun _ => ?_) | (with_reducible refine L3.ok ?_ ?_ ?_ <;> omega))
  · exact E.ctg3 _ _ _ (by omega) (by omega)
  · exact (E.ctg3 _ _ _ (by omega) (by omega)).bind fun v k2 kp2 kq2 h _ hk2 hp2 hq2 => L3.ok hk2 hp2 hq2
theorem Ex2.ld3 (E : Ex2 a L M p q) {k kp kq : Nat} (hk : k ≤ a.length) (hp : kp = p + k) (hq : kq = q + k) : L3 a.length p q (ldS a k) (ldS L kp) (ldS M kq) := by
  unfold ldS
  refine (E.pk3 (k := k + 1) (by omega) (by omega)).bind fun v k' kp' kq' h _ hk' hp' hq' => ?_
  refine L3.ite (fun _ => L3.ok hk hp hq) fun _ => L3.ite (fun _ => ?_) fun _ => L3.ok hk hp hq
  exact (E.pk3 (k := k + 2) (by omega) (by omega)).bind fun v k' kp' kq' h _ hk' hp' hq' => L3.ok hk hp hq
theorem Ex2.ce3 (E : Ex2 a L M p q) {k kp kq : Nat} (hp : kp = p + k) (hq : kq = q + k) : L3 a.length p q (ceS a k) (ceS L kp) (ceS M kq) := by
  unfold ceS
  refine (E.pk3 hp hq).bind fun v k' kp' kq' h _ hk' hp' hq' => ?_
  have hk := (pk_ok h).2
  refine L3.ite (fun _ => L3.ok (by omega) hp hq) fun _ => L3.ite (fun _ => ?_) fun _ => L3.ok (by omega) hp hq
  exact (E.pk3 (k := k + 1) (by omega) (by omega)).bind fun v k' kp' kq' h _ hk' hp' hq' => L3.ok (by omega) hp hq
theorem Ex2.db3 (E : Ex2 a L M p q) {k kp kq : Nat} (hp : kp = p + k) (hq : kq = q + k) : L3 a.length p q (dbS a k) (dbS L kp) (dbS M kq) := by
  unfold dbS
  refine (E.pk3 hp hq).bind fun v k' kp' kq' h _ hk' hp' hq' => ?_
  have hk := (pk_ok h).2
  refine L3.ite (fun _ => ?_) fun _ => L3.ok (by omega) hp hq
  refine (E.ce3 hp hq).bind fun v k' kp' kq' h _ hk' hp' hq' => ?_
  refine L3.ite (fun _ => L3.ok (by omega) hp hq) fun _ => ?_
  exact (E.ld3 (by omega) hp hq).bind fun v k' kp' kq' h _ hk' hp' hq' => L3.ok (by omega) hp hq
theorem Ex2.sg3 (E : Ex2 a L M p q) (first : Bool) {k kp kq : Nat} (hp : kp = p + k) (hq : kq = q + k) : L3 a.length p q (sgS a first k) (sgS L first kp) (sgS M first kq) := by
  unfold sgS
  refine (E.let3 hp hq).bind fun v k' kp' kq' h _ hk' hp' hq' => ?_
  have := (let_okj h).2
  refine L3.ite (fun _ => E.ep3 hp hq) fun _ => L3.ite (fun _ => L3.bad) fun _ => L3.ite (fun _ => L3.bad) fun _ => L3.ite (fun _ => ?_) fun _ => L3.ok (by omega) (by omega) (by omega)
  refine (E.ld3 (by omega) hp hq).bind fun v k' kp' kq' h _ hk' hp' hq' => ?_
  exact L3.ite (fun _ => L3.ok (by omega) (by omega) (by omega)) fun _ => L3.bad
theorem Ex2.mb3 (E : Ex2 a L M p q) (first : Bool) {k kp kq : Nat} (hp : kp = p + k) (hq : kq = q + k) : L3 a.length p q (mbS a first k) (mbS L first kp) (mbS M first kq) := by
  unfold mbS
  refine (E.pk3 hp hq).bind fun r k0 kp0 kq0 h _ hk' _ _ => ?_
  refine (E.sg3 first hp hq).bind fun s k1 kp1 kq1 h1 _ hk1 hp1 hq1 => ?_
  refine L3.ite (fun _ => L3.ok hk1 hp1 hq1) fun _ => L3.ite (fun _ => L3.ok hk1 hp1 hq1) fun _ => ?_
  refine (E.db3 hp1 hq1).bind fun b k2 kp2 kq2 h2 _ hk2 _ _ => ?_
  refine L3.ite (fun _ => ?_) fun _ => L3.ok hk1 hp1 hq1
  refine (E.sg3 false (k := k1 + 1) (by omega) (by omega)).bind fun t k3 kp3 kq3 h3 _ hk3 hp3 hq3 => ?_
  exact L3.ite (fun _ => L3.bad) fun _ => L3.ite (fun _ => L3.bad) fun _ => L3.ok hk3 hp3 hq3
theorem Ex2.ml3 (E : Ex2 a L M p q) : ∀ (f f1 f2 : Nat) (first : Bool) (acc : List Rg) (k kp kq : Nat), f ≤ f1 → f ≤ f2 → kp = p + k → kq = q + k → L3 a.length p q (mlS a f first acc k) (mlS L f1 first acc kp) (mlS M f2 first acc kq)
  | 0, f1, f2, first, acc, k, kp, kq, _, _, hp, hq => by cases first <;> exact L3.bad
  | f + 1, f1, f2, first, acc, k, kp, kq, h1, h2, hp, hq => by
    obtain ⟨f1, rfl⟩ : ∃ x, f1 = x + 1 := ⟨f1 - 1, by omega⟩
    obtain ⟨f2, rfl⟩ : ∃ x, f2 = x + 1 := ⟨f2 - 1, by omega⟩
    cases first with
    | true =>
      simp only [mlS]
      exact (E.mb3 true hp hq).bind fun s k1 kp1 kq1 _ _ hk1 hp1 hq1 => E.ml3 f f1 f2 _ _ _ _ _ (by omega) (by omega) hp1 hq1
    | false =>
      simp only [mlS]
      refine (E.ce3 hp hq).bind fun b k0 kp0 kq0 h0 _ hk0 hp0 hq0 => ?_
      refine L3.ite (fun hb => ?_) fun _ => (E.mb3 false hp hq).bind fun s k1 kp1 kq1 _ _ hk1 hp1 hq1 => E.ml3 f f1 f2 _ _ _ _ _ (by omega) (by omega) hp1 hq1
      refine L3.ok ?_ hp hq
      unfold ceS at h0
      cases hr : pkS a k with
      | bad i e => rw [hr] at h0; cases h0
      | ok r k' => exact Nat.le_of_lt (pk_ok hr).2
theorem Ex2.ent3 (E : Ex2 a L M p q) {o k kp kq : Nat} (hk : k < a.length) (hp : kp = p + k) (hq : kq = q + k) : L3 a.length p q (entS o k) (entS (o + 1) kp) (entS (o + 1) kq) := by
  unfold entS
  by_cases h : o = 40
  · rw [if_pos h]; trivial
  · rw [if_neg h]
    by_cases h1 : o + 1 = 40
    · rw [if_pos h1, if_pos h1]
      exact .inr ⟨_, _, rfl, rfl⟩
    · rw [if_neg h1, if_neg h1]
      exact L3.ok (by omega) (by omega) (by omega)
theorem cls_in {a : Bs} : ∀ (f o k k' : Nat) (s : List Rg), clsS a f o k = .ok s k' → k < a.length
  | 0, o, k, k', s, h => by cases h
  | f + 1, o, k, k', s, h => by
    simp only [clsS] at h
    unfold entS at h
    split at h
    · cases h
    · rw [R.bind_ok] at h
      cases hm : mlS a (a.length + 1) true [] (if skB a 94 (k + 1) = true then k + 1 + 1 else k + 1) with
      | bad i e => rw [hm] at h; cases h
      | ok acc k3 =>
        simp only [mlS] at hm
        unfold mbS at hm
        cases hr : pkS a (if skB a 94 (k + 1) = true then k + 1 + 1 else k + 1) with
        | bad i e => rw [hr] at hm; cases hm
        | ok r k4 =>
          have := (pk_ok hr).2
          split at this <;> omega
theorem Ex2.cls3 (E : Ex2 a L M p q) : ∀ (f o k kp kq : Nat), k < a.length → kp = p + k → kq = q + k → L3 a.length p q (clsS a f o k) (clsS L f (o + 1) kp) (clsS M f (o + 1) kq)
  | 0, o, k, kp, kq, _, hp, hq => L3.bad
  | f + 1, o, k, kp, kq, hk, hp, hq => by
    have l1 := E.l.len
    have l2 := E.m.len
    simp only [clsS]
    refine (E.ent3 hk hp hq).bind fun u k1 kp1 kq1 _ _ hk1 hp1 hq1 => ?_
    rw [E.l.sk hp1 hk1 (by decide), E.m.sk hq1 hk1 (by decide)]
    generalize skB a 94 k1 = nb
    refine L3.bind (E.ml3 _ _ _ _ _ _ _ _ (by omega) (by omega) (by split <;> omega) (by split <;> omega)) fun acc k3 kp3 kq3 h3 _ hk3 hp3 hq3 => ?_
    rw [E.l.sk hp3 hk3 (by decide), E.m.sk hq3 hk3 (by decide)]
    refine L3.ite (fun hs => ?_) fun _ => ?_
    · have hs' : k3 < a.length := by unfold skB at hs; simp at hs; exact hs.1
      by_cases h4 : k3 + 1 < a.length
      · refine (E.cls3 f (o + 1) (k3 + 1) _ _ h4 (by omega) (by omega)).bind fun t k4 kp4 kq4 _ _ hk4 hp4 hq4 => ?_
        exact (E.sgn3 _ hp4 hq4).bind fun _ k5 kp5 kq5 _ _ hk5 hp5 hq5 => L3.ok hk5 hp5 hq5
      · cases hc : clsS a f (o + 1) (k3 + 1) with
        | bad i e => trivial
        | ok t k4 => exact absurd (cls_in _ _ _ _ _ hc) h4
    · exact (E.sgn3 _ hp3 hq3).bind fun _ k5 kp5 kq5 _ _ hk5 hp5 hq5 => L3.ok hk5 hp5 hq5
theorem Ex2.pie3 (E : Ex2 a L M p q) {f g h : Nat → R Nd} (H : ∀ k kp kq, kp = p + k → kq = q + k → L3 a.length p q (f k) (g kp) (h kq)) {k kp kq : Nat} (hp : kp = p + k) (hq : kq = q + k) : L3 a.length p q (pieS f a k) (pieS g L kp) (pieS h M kq) := by
  unfold pieS
  refine (H k kp kq hp hq).bind fun x k1 kp1 kq1 _ _ hk1 hp1 hq1 => ?_
  exact (E.tim3 hk1 hp1 hq1).bind fun v k2 kp2 kq2 _ _ hk2 hp2 hq2 => L3.ok hk2 hp2 hq2
theorem Ex2.pcs3 (E : Ex2 a L M p q) {f g h : Nat → R Nd} (H : ∀ k kp kq, kp = p + k → kq = q + k → L3 a.length p q (f k) (g kp) (h kq)) : ∀ (n n1 n2 : Nat) (acc : List Nd) (k kp kq : Nat), n ≤ n1 → n ≤ n2 → kp = p + k → kq = q + k → L3 a.length p q (pcsS f a n acc k) (pcsS g L n1 acc kp) (pcsS h M n2 acc kq)
  | 0, n1, n2, acc, k, kp, kq, _, _, hp, hq => L3.bad
  | n + 1, n1, n2, acc, k, kp, kq, h1, h2, hp, hq => by
    obtain ⟨n1, rfl⟩ : ∃ x, n1 = x + 1 := ⟨n1 - 1, by omega⟩
    obtain ⟨n2, rfl⟩ : ∃ x, n2 = x + 1 := ⟨n2 - 1, by omega⟩
    simp only [pcsS]
    refine (E.go3 hp hq).bind fun b k0 kp0 kq0 h0 _ hk0 hp0 hq0 => ?_
    refine L3.ite (fun _ => ?_) fun _ => ?_
    · exact (E.pie3 H hp hq).bind fun x k1 kp1 kq1 _ _ hk1 hp1 hq1 => E.pcs3 H n n1 n2 _ _ _ _ (by omega) (by omega) hp1 hq1
    · refine L3.ok ?_ hp hq
      unfold goS at h0
      split at h0
      · omega
      · cases hr : pkS a k with
        | bad i e => rw [hr] at h0; cases h0
        | ok r k' => exact Nat.le_of_lt (pk_ok hr).2
theorem Ex2.als3 (E : Ex2 a L M p q) {f g h : Nat → R Nd} (H : ∀ k kp kq, kp = p + k → kq = q + k → L3 a.length p q (f k) (g kp) (h kq)) : ∀ (n n1 n2 : Nat) (acc : List Nd) (k kp kq : Nat), k ≤ a.length → n ≤ n1 → n ≤ n2 → kp = p + k → kq = q + k → L3 a.length p q (alsS f a n acc k) (alsS g L n1 acc kp) (alsS h M n2 acc kq)
  | 0, n1, n2, acc, k, kp, kq, _, _, _, hp, hq => L3.bad
  | n + 1, n1, n2, acc, k, kp, kq, hk, h1, h2, hp, hq => by
    have l1 := E.l.len
    have l2 := E.m.len
    obtain ⟨n1, rfl⟩ : ∃ x, n1 = x + 1 := ⟨n1 - 1, by omega⟩
    obtain ⟨n2, rfl⟩ : ∃ x, n2 = x + 1 := ⟨n2 - 1, by omega⟩
    simp only [alsS]
    rw [E.l.sk hp hk (by decide), E.m.sk hq hk (by decide)]
    refine L3.ite (fun _ => ?_) fun _ => L3.ok hk hp hq
    unfold rowS
    exact (E.pcs3 H _ _ _ _ (k + 1) _ _ (by omega) (by omega) (by omega) (by omega)).bind fun x k1 kp1 kq1 _ _ hk1 hp1 hq1 => E.als3 H n n1 n2 _ _ _ _ hk1 (by omega) (by omega) hp1 hq1
theorem Ex2.pat3 (E : Ex2 a L M p q) {f g h : Nat → R Nd} (H : ∀ k kp kq, kp = p + k → kq = q + k → L3 a.length p q (f k) (g kp) (h kq)) {k kp kq : Nat} (hp : kp = p + k) (hq : kq = q + k) : L3 a.length p q (patS f a k) (patS g L kp) (patS h M kq) := by
  have l1 := E.l.len
  have l2 := E.m.len
  unfold patS rowS
  exact (E.pcs3 H _ _ _ _ k _ _ (by omega) (by omega) hp hq).bind fun x k1 kp1 kq1 _ _ hk1 hp1 hq1 => E.als3 H _ _ _ _ _ _ _ hk1 (by omega) (by omega) hp1 hq1
theorem Ex2.atom3 (E : Ex2 a L M p q) : ∀ (d o k kp kq : Nat), d + o = 40 → o ≤ 39 → kp = p + k → kq = q + k → L3 a.length p q (atomS a (d + 1) o k) (atomS L d (o + 1) kp) (atomS M d (o + 1) kq)
  | 0, o, k, kp, kq, hd, ho, _, _ => by omega
  | d + 1, o, k, kp, kq, hd, ho, hp, hq => by
    unfold atomS
    refine (E.let3 hp hq).bind fun v k0 kp0 kq0 h0 _ _ _ _ => ?_
    have hv := (let_okj h0).2
    refine L3.ite (fun _ => ?_) fun _ => L3.ite (fun _ => ?_) fun _ => L3.ite (fun _ => ?_) fun _ => ?_
    · refine (E.ent3 (by omega) hp hq).bind fun u k1 kp1 kq1 _ he hk1 hp1 hq1 => ?_
      have ho1 : o + 1 ≤ 39 := by
        unfold entS at he
        split at he
        · cases he
        · omega
      refine (E.pat3 (fun k kp kq hp hq => E.atom3 d (o + 1) k kp kq (by omega) ho1 hp hq) hp1 hq1).bind fun x k2 kp2 kq2 _ _ hk2 hp2 hq2 => ?_
      exact (E.sgn3 _ hp2 hq2).bind fun _ k5 kp5 kq5 _ _ hk5 hp5 hq5 => L3.ok hk5 hp5 hq5
    · exact (E.cls3 _ _ _ _ _ (by omega) hp hq).bind fun _ k5 kp5 kq5 _ _ hk5 hp5 hq5 => L3.ok hk5 hp5 hq5
    · exact (E.ep3 hp hq).bind fun _ k5 kp5 kq5 _ _ hk5 hp5 hq5 => L3.ok hk5 hp5 hq5
    · repeat' (first | with_reducible exact L3.bad | (with_reducible refine L3.ite (fun _ => ?_) fun _ => ?_) | (with_reducible refine L3.ok ?_ ?_ ?_ <;> omega))
end
end Go.Proofs.Ythlkbijpphdblaa
