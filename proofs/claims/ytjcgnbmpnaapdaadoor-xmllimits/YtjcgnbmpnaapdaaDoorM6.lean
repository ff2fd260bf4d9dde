/- Plain facts on the scanner: it goes on within the bytes, its faults lie there; limits; fronts of the bytes. -/
import Derived.Test.YtjcgnbmpnaapdaaDoorXSpec
namespace Go.Proofs.YtjcgnbmpnaapdaaDoor.M
set_option linter.unusedVariables false
variable {α β : Type}

theorem bind_ok (a : α) (k : Nat) (f : α → Nat → R β) : (R.ok a k).bind f = f a k := rfl
theorem bind_bad (p e : Int) (f : α → Nat → R β) : (R.bad p e : R α).bind f = .bad p e := rfl
theorem bind_inv {x : R α} {f : α → Nat → R β} {b : β} {k : Nat} (h : x.bind f = .ok b k) : ∃ a j, x = .ok a j ∧ f a j = .ok b k := by
  cases x with
  | ok a j => exact ⟨a, j, rfl, h⟩
  | bad p e => cases h
theorem fin_zero {r n : Int} (h : (fin r n).2 = 0) (hn : n ≠ 0) : (fin r n).1 = -1 := by
  unfold fin at *
  split at h
  · simp at h; omega
  · rename_i h1; rw [if_neg h1]
def Zr (p : Int × Int) : Prop := p.2 = 0 → p.1 = -1
theorem dec_zr (l : Bs) : Zr (dec l) := by
  unfold dec dec2 dec3 dec4
  repeat' split
  all_goals (first | exact fun _ => rfl | exact fun h => fin_zero h (by decide) | (intro h; simp at h))
theorem okl_pos {l : Bs} {k : Nat} (h : okl l k = true) : (dec (l.drop k)).2 ≠ 0 := by
  intro h0
  have := dec_zr _ h0
  unfold okl lt at h
  rw [this] at h
  revert h
  decide
theorem ln_pos {l : Bs} {k : Nat} (h : okl l k = true) : 1 ≤ ln l k := by
  have := okl_pos h
  have hb := dec_bd (l.drop k)
  unfold ln
  omega
theorem okl_lt {l : Bs} {k : Nat} (h : okl l k = true) : k < l.length := by
  rcases Nat.lt_or_ge k l.length with hk | hk
  · exact hk
  · exfalso
    have := okl_pos h
    rw [List.drop_eq_nil_of_le hk] at this
    exact this rfl
theorem okl_end {l : Bs} {k : Nat} (h : l.length ≤ k) : okl l k = false := by
  cases hh : okl l k
  · rfl
  · have := okl_lt hh; omega
theorem ln_le (l : Bs) (k : Nat) (hk : k ≤ l.length) : k + ln l k ≤ l.length := by
  have := dec_bd (l.drop k)
  unfold ln
  simp at this
  omega
/-- The letter at a row's front hangs on its own bytes alone. -/
theorem dec_app (l m : Bs) (h : (dec l).2 ≠ 0) : dec (l ++ m) = dec l := by
  match l with
  | [] => exact absurd rfl h
  | [a] =>
    by_cases h0 : a < 128
    · simp [dec, h0]
    · exfalso; apply h; simp [dec, h0]
  | [a, b] =>
    by_cases h0 : a < 128
    · simp [dec, h0]
    by_cases h1 : a < 192
    · exfalso; apply h; simp [dec, h0, h1]
    by_cases h2 : a < 224
    · simp [dec, h0, h1, h2]
    · exfalso; apply h; simp [dec, h0, h1, h2]
  | [a, b, c] =>
    by_cases h0 : a < 128
    · simp [dec, h0]
    by_cases h1 : a < 192
    · exfalso; apply h; simp [dec, h0, h1]
    by_cases h2 : a < 224
    · simp [dec, h0, h1, h2]
    by_cases h3 : a < 240
    · simp [dec, h0, h1, h2, h3]
    · exfalso; apply h; simp [dec, h0, h1, h2, h3]
  | a :: b :: c :: d :: t =>
    simp [dec]
theorem take_drop_app (b : Bs) (c k : Nat) : b.drop k = (b.take c).drop k ++ b.drop (max k c) := by
  rw [List.drop_take]
  rcases Nat.le_total k c with h | h
  · have e : b.drop (max k c) = (b.drop k).drop (c - k) := by rw [List.drop_drop]; congr 1; omega
    rw [e, List.take_append_drop]
  · have e : c - k = 0 := by omega
    rw [e, Nat.max_eq_left h]; simp
theorem okl_take {b : Bs} {c k : Nat} (h : okl (b.take c) k = true) : okl b k = true ∧ lt b k = lt (b.take c) k ∧ ln b k = ln (b.take c) k := by
  have hp := okl_pos h
  have e := dec_app _ (b.drop (max k c)) hp
  rw [← take_drop_app] at e
  have e1 : lt b k = lt (b.take c) k := by unfold lt; rw [e]
  refine ⟨?_, e1, ?_⟩
  · unfold okl at h ⊢; rw [e1]; exact h
  · unfold ln; rw [e]

/-- From k on: it goes on within the bytes; a fault lies there. -/
def Gd (b : Bs) (k : Nat) (x : R α) : Prop := match x with | .ok _ k' => k ≤ k' ∧ k' ≤ b.length | .bad p e => p ≤ (b.length : Int) ∧ e ≠ 0
theorem Gd.le {b : Bs} {k k' : Nat} {x : R α} (h : Gd b k' x) (hk : k ≤ k') : Gd b k x := by
  cases x with
  | ok a j => exact ⟨Nat.le_trans hk h.1, h.2⟩
  | bad p e => exact h
theorem Gd.bind {b : Bs} {k : Nat} {x : R α} {f : α → Nat → R β} (h : Gd b k x) (hf : ∀ a k', x = .ok a k' → k ≤ k' → k' ≤ b.length → Gd b k' (f a k')) : Gd b k (x.bind f) := by
  cases x with
  | ok a k' => exact (hf a k' rfl h.1 h.2).le h.1
  | bad p e => exact h
theorem Gd.ok {b : Bs} {k k' : Nat} {a : α} (h : k ≤ k') (h2 : k' ≤ b.length) : Gd b k (.ok a k' : R α) := ⟨h, h2⟩
theorem Gd.bad {b : Bs} {k : Nat} {p e : Int} (h : p ≤ (b.length : Int)) (h2 : e ≠ 0) : Gd b k (.bad p e : R α) := ⟨h, h2⟩
theorem Gd.use {b : Bs} {k k' : Nat} {x : R α} {a : α} (h : Gd b k x) (e : x = .ok a k') : k ≤ k' ∧ k' ≤ b.length := by subst e; exact h

/-- By narrower limits: the same, or a limit's fault. -/
def Lim (x y : R α) : Prop := x = y ∨ ∃ p, x = .bad p 3
theorem Lim.rfl {x : R α} : Lim x x := .inl (Eq.refl _)
theorem Lim.bad {p : Int} {y : R α} : Lim (.bad p 3) y := .inr ⟨p, Eq.refl _⟩
theorem Lim.bind {x y : R α} {f g : α → Nat → R β} (h : Lim x y) (hf : ∀ a k, Lim (f a k) (g a k)) : Lim (x.bind f) (y.bind g) := by
  rcases h with rfl | ⟨p, rfl⟩
  · cases x with
    | ok a k => exact hf a k
    | bad p e => exact .inl (Eq.refl _)
  · exact .inr ⟨p, Eq.refl _⟩

/-- By a front of c bytes: the same of the whole, or it stands at the front's end. -/
def FI (c : Nat) (x y : R α) : Prop := ∀ a k, x = .ok a k → y = .ok a k ∨ c ≤ k
theorem FI.bind {b : Bs} {c : Nat} {x y : R α} {f g : α → Nat → R β} (h : FI c x y) (hg : ∀ a k, x = .ok a k → Gd b k (f a k)) (hf : ∀ a k, x = .ok a k → FI c (f a k) (g a k)) : FI c (x.bind f) (y.bind g) := by
  intro r k hr
  obtain ⟨a, j, h1, h2⟩ := bind_inv hr
  rcases h a j h1 with h3 | h3
  · rw [h3, bind_ok]
    exact hf a j h1 r k h2
  · exact .inr (Nat.le_trans h3 ((hg a j h1).use h2).1)
theorem FI.bad {c : Nat} {p e : Int} {y : R α} : FI c (.bad p e) y := by intro a k h; cases h
theorem FI.ok {c k : Nat} {a : α} : FI c (.ok a k) (.ok a k) := by intro a k h; exact .inl h

theorem take_gd {b : Bs} {k : Nat} (hk : k ≤ b.length) : Gd b k (takeS b k) := by
  unfold takeS
  split
  · exact .ok (by omega) (ln_le b k hk)
  · exact .bad (by omega) (by decide)
theorem peek_gd {b : Bs} {k : Nat} (hk : k ≤ b.length) : Gd b k (peekS b k) := by
  unfold peekS
  split
  · exact .ok (by omega) hk
  · exact .bad (by omega) (by decide)
theorem take_fi {b : Bs} {c k : Nat} : FI c (takeS (b.take c) k) (takeS b k) := by
  intro a j h
  unfold takeS at h
  split at h
  · rename_i ho
    obtain ⟨h1, h2, h3⟩ := okl_take ho
    cases h
    left
    rw [takeS, if_pos h1, h2, h3]
  · cases h
theorem peek_fi {b : Bs} {c k : Nat} : FI c (peekS (b.take c) k) (peekS b k) := by
  intro a j h
  unfold peekS at h
  split at h
  · rename_i ho
    obtain ⟨h1, h2, h3⟩ := okl_take ho
    cases h
    left
    rw [peekS, if_pos h1, h2]
  · cases h
theorem peek_inv {b : Bs} {k k' : Nat} {r : Int} (h : peekS b k = .ok r k') : okl b k = true ∧ r = lt b k ∧ k' = k := by
  unfold peekS at h
  split at h
  · cases h; exact ⟨‹_›, rfl, rfl⟩
  · cases h
theorem take_inv {b : Bs} {k k' : Nat} {r : Int} (h : takeS b k = .ok r k') : okl b k = true ∧ r = lt b k ∧ k' = k + ln b k := by
  unfold takeS at h
  split at h
  · cases h; exact ⟨‹_›, rfl, rfl⟩
  · cases h
theorem line_gd {b : Bs} {k : Nat} (hk : k ≤ b.length) : Gd b k (lineS b k) := by
  unfold lineS
  refine (take_gd hk).bind ?_
  intro r k' _ _ hk'
  split
  · split
    · exact .ok (by omega) (by omega)
    · exact .ok (by omega) hk'
  · exact .ok (by omega) hk'
theorem line_fi {b : Bs} {c k : Nat} (hc : c ≤ b.length) : FI c (lineS (b.take c) k) (lineS b k) := by
  intro a j h
  unfold lineS at h ⊢
  obtain ⟨r, k1, h1, h2⟩ := bind_inv h
  have hk1 : k1 ≤ c := by
    obtain ⟨ho, _, rfl⟩ := take_inv h1
    have hlt := okl_lt ho
    have := ln_le (b.take c) k (by omega)
    simp at this
    omega
  rcases take_fi r k1 h1 with h3 | h3
  · rw [h3, bind_ok]
    split at h2
    · rename_i h13
      split at h2
      · rename_i hx
        cases h2
        left
        rw [if_pos h13]
        have h10 : b.getD k1 0 = 10 := by
          have h0 := hx.1
          have h1 := hx.2
          simp at h0
          rw [List.getD_eq_getElem?_getD, List.getElem?_take, if_pos (by omega)] at h1
          rw [List.getD_eq_getElem?_getD]
          exact h1
        have h0 := hx.1
        simp at h0
        rw [if_pos ⟨by omega, h10⟩]
      · rename_i hx
        injection h2 with e1 e2
        subst e1
        subst e2
        rcases Nat.lt_or_ge k1 c with hlt | hge
        · left
          rw [if_pos h13, if_neg]
          rintro ⟨q1, q2⟩
          apply hx
          refine ⟨by simp; omega, ?_⟩
          rw [List.getD_eq_getElem?_getD] at q2 ⊢
          rw [List.getElem?_take, if_pos hlt]
          exact q2
        · exact .inr hge
    · rename_i h13
      cases h2
      left
      rw [if_neg h13]
  · right
    split at h2
    · split at h2 <;> cases h2 <;> omega
    · cases h2; exact h3
theorem blk_gd {b : Bs} : ∀ {n k : Nat}, k ≤ b.length → Gd b k (blkS n b k)
  | 0, k, hk => .ok (Nat.le_refl _) hk
  | n + 1, k, hk => by
    rw [blkS]
    split
    · exact .ok (Nat.le_refl _) hk
    split
    · split
      · exact (blk_gd (ln_le b k hk)).le (by omega)
      · exact .ok (Nat.le_refl _) hk
    · exact .bad (by omega) (by decide)
theorem blk_fi {b : Bs} {c : Nat} (hc : c ≤ b.length) : ∀ {n m k : Nat}, c - k ≤ n → n ≤ m → k ≤ c → FI c (blkS n (b.take c) k) (blkS m b k)
  | 0, m, k, h1, h2, hk => by
    intro a j h
    rw [blkS] at h
    cases h
    exact .inr (by omega)
  | n + 1, 0, k, h1, h2, hk => by omega
  | n + 1, m + 1, k, h1, h2, hk => by
    have hl : (b.take c).length = c := by simp; omega
    intro a j h
    rw [blkS, hl] at h
    split at h
    · cases h; exact .inr (by omega)
    · split at h
      · rename_i hne ho
        obtain ⟨o1, o2, o3⟩ := okl_take ho
        have hp := ln_pos ho
        have hle := ln_le (b.take c) k (by omega)
        rw [hl] at hle
        rw [blkS, if_neg (by have := okl_lt o1; omega), if_pos o1, o2, o3]
        split at h
        · rename_i hw
          rw [if_pos hw]
          exact blk_fi hc (by omega) (by omega) hle a j h
        · rename_i hw
          rw [if_neg hw]
          exact .inl h
      · cases h
theorem blanks_gd {b : Bs} {k : Nat} (hk : k ≤ b.length) : Gd b k (blanksS b k) := by
  unfold blanksS
  exact (blk_gd hk).bind fun _ _ _ _ h => .ok (Nat.le_refl _) h
theorem blanks_fi {b : Bs} {c k : Nat} (hc : c ≤ b.length) (hk : k ≤ c) : FI c (blanksS (b.take c) k) (blanksS b k) := by
  have hl : (b.take c).length = c := by simp; omega
  unfold blanksS
  rw [hl]
  refine FI.bind (b := b.take c) (blk_fi hc (Nat.le_refl _) (by omega) hk) ?_ ?_
  · intro a j h
    have := (blk_gd (b := b.take c) (k := k) (n := c - k) (by omega)).use h
    exact .ok (Nat.le_refl _) this.2
  · intro a j h; exact .ok
theorem word_gd {b : Bs} {blame : Int} (hb : blame ≤ b.length) : ∀ {w : List Int} {k : Nat}, k ≤ b.length → Gd b k (wordS b blame w k)
  | [], k, hk => .ok (Nat.le_refl _) hk
  | x :: w, k, hk => by
    rw [wordS]
    refine (take_gd hk).bind ?_
    intro r k' _ _ hk'
    split
    · exact word_gd hb hk'
    · exact .bad hb (by decide)
theorem word_fi {b : Bs} {c : Nat} {blame : Int} (hb : blame ≤ (b.take c).length) : ∀ {w : List Int} {k : Nat}, k ≤ (b.take c).length → FI c (wordS (b.take c) blame w k) (wordS b blame w k)
  | [], k, hk => .ok
  | x :: w, k, hk => by
    rw [wordS, wordS]
    refine FI.bind (b := b.take c) take_fi ?_ ?_
    · intro r k' h
      have hk' := ((take_gd hk).use h).2
      split
      · exact word_gd hb hk'
      · exact .bad hb (by decide)
    · intro r k' h
      have hk' := ((take_gd hk).use h).2
      split
      · exact word_fi hb hk'
      · exact .bad
theorem sign_gd {b : Bs} {r : Int} {k : Nat} (hk : k ≤ b.length) : Gd b k (signS b r k) := by
  unfold signS
  split
  · exact .ok (by omega) (ln_le b k hk)
  · exact .bad (by omega) (by decide)
theorem sign_inv {b : Bs} {r : Int} {k k' : Nat} (h : signS b r k = .ok () k') : okl b k = true ∧ lt b k = r ∧ k' = k + ln b k := by
  unfold signS at h
  split at h
  · rename_i hh; cases h; exact ⟨hh.1, hh.2, rfl⟩
  · cases h
theorem sign_fe {b : Bs} {c k k' : Nat} {r : Int} (h : signS (b.take c) r k = .ok () k') : signS b r k = .ok () k' := by
  obtain ⟨h1, h2, h3⟩ := sign_inv h
  obtain ⟨o1, o2, o3⟩ := okl_take h1
  rw [signS, if_pos ⟨o1, by rw [o2]; exact h2⟩, o3, h3]
theorem sign_fi {b : Bs} {c k : Nat} {r : Int} : FI c (signS (b.take c) r k) (signS b r k) := by
  intro a j h; cases a; exact .inl (sign_fe h)
theorem quote_gd {b : Bs} {k : Nat} (hk : k ≤ b.length) : Gd b k (quoteS b k) := by
  unfold quoteS
  split
  · exact .ok (by omega) (ln_le b k hk)
  · exact .bad (by omega) (by decide)
theorem quote_fi {b : Bs} {c k : Nat} : FI c (quoteS (b.take c) k) (quoteS b k) := by
  intro a j h
  unfold quoteS at h
  split at h
  · rename_i hh
    obtain ⟨o1, o2, o3⟩ := okl_take hh.1
    cases h
    left
    rw [quoteS, if_pos ⟨o1, by rw [o2]; exact hh.2⟩, o2, o3]
  · cases h
end Go.Proofs.YtjcgnbmpnaapdaaDoor.M
namespace Go.Proofs.YtjcgnbmpnaapdaaDoor.M
set_option linter.unusedVariables false
variable {α β : Type}

theorem nm_gd {b : Bs} {T : Int} {k : Nat} (hk : k ≤ b.length) : ∀ {n j : Nat}, j ≤ b.length → Gd b j (nmS n b T k j)
  | 0, j, hj => .ok (Nat.le_refl _) hj
  | n + 1, j, hj => by
    rw [nmS]
    split
    · exact .ok (Nat.le_refl _) hj
    split
    · split
      · split
        · exact .bad (by omega) (by decide)
        · exact (nm_gd hk (ln_le b j hj)).le (by omega)
      · exact .ok (Nat.le_refl _) hj
    · exact .bad (by omega) (by decide)
theorem nm_fi {b : Bs} {T : Int} {c k : Nat} (hc : c ≤ b.length) : ∀ {n m j : Nat}, c - j ≤ n → n ≤ m → j ≤ c → FI c (nmS n (b.take c) T k j) (nmS m b T k j)
  | 0, m, j, h1, h2, hj => by
    intro a i h
    rw [nmS] at h
    cases h
    exact .inr (by omega)
  | n + 1, 0, j, h1, h2, hj => by omega
  | n + 1, m + 1, j, h1, h2, hj => by
    have hl : (b.take c).length = c := by simp; omega
    intro a i h
    rw [nmS, hl] at h
    split at h
    · cases h; exact .inr (by omega)
    · split at h
      · rename_i hne ho
        obtain ⟨o1, o2, o3⟩ := okl_take ho
        have hp := ln_pos ho
        have hle := ln_le (b.take c) j (by omega)
        rw [hl] at hle
        rw [nmS, if_neg (by have := okl_lt o1; omega), if_pos o1, o2, o3]
        split at h
        · rename_i hw
          rw [if_pos hw]
          split at h
          · cases h
          · rename_i hT
            rw [if_neg hT]
            exact nm_fi hc (by omega) (by omega) hle a i h
        · rename_i hw
          rw [if_neg hw]
          exact .inl h
      · cases h
theorem nm_lim {b : Bs} {T T' : Int} {k : Nat} (hT : T' ≤ T) : ∀ {n j : Nat}, Lim (nmS n b T' k j) (nmS n b T k j)
  | 0, j => .rfl
  | n + 1, j => by
    rw [nmS, nmS]
    split
    · exact .rfl
    split
    · split
      · by_cases h : T' < ((j + ln b j : Nat) : Int) - k
        · rw [if_pos h]; exact .bad
        · rw [if_neg h, if_neg (by omega)]; exact nm_lim hT
      · exact .rfl
    · exact .rfl
theorem sub_take {b : Bs} {c k j : Nat} (h : j ≤ c) : sub (b.take c) k j = sub b k j := by
  unfold sub
  rw [List.drop_take, List.take_take]
  congr 1
  omega
theorem name_gd {b : Bs} {T : Int} {k : Nat} (hk : k ≤ b.length) : Gd b k (nameS b T k) := by
  unfold nameS
  split
  · exact (nm_gd hk hk).bind fun _ _ _ _ h => .ok (Nat.le_refl _) h
  · exact .bad (by omega) (by decide)
theorem name_fi {b : Bs} {T : Int} {c k : Nat} (hc : c ≤ b.length) (hk : k ≤ c) : FI c (nameS (b.take c) T k) (nameS b T k) := by
  have hl : (b.take c).length = c := by simp; omega
  unfold nameS
  split
  · rename_i hh
    obtain ⟨o1, o2, o3⟩ := okl_take hh.1
    rw [if_pos ⟨o1, by rw [o2]; exact hh.2⟩, hl]
    refine FI.bind (b := b.take c) (nm_fi hc (Nat.le_refl _) (by omega) hk) ?_ ?_
    · intro a j h
      have := (nm_gd (b := b.take c) (T := T) (k := k) (n := c - k) (by omega) (by omega)).use h
      exact .ok (Nat.le_refl _) this.2
    · intro a j h
      have := (nm_gd (b := b.take c) (T := T) (k := k) (n := c - k) (by omega) (by omega)).use h
      rw [sub_take (by omega)]
      exact .ok
  · exact .bad
theorem name_lim {b : Bs} {T T' : Int} {k : Nat} (hT : T' ≤ T) : Lim (nameS b T' k) (nameS b T k) := by
  unfold nameS
  split
  · exact (nm_lim hT).bind fun _ _ => .rfl
  · exact .rfl
theorem digit_gd {b : Bs} {base amp : Int} {k : Nat} (ha : amp ≤ b.length) (hk : k ≤ b.length) : Gd b k (digitS b base amp k) := by
  unfold digitS
  refine (take_gd hk).bind ?_
  intro r k' _ _ hk'
  split
  · exact .ok (Nat.le_refl _) hk'
  · exact .bad ha (by decide)
theorem digit_fi {b : Bs} {base amp : Int} {c k : Nat} (ha : amp ≤ (b.take c).length) (hk : k ≤ (b.take c).length) : FI c (digitS (b.take c) base amp k) (digitS b base amp k) := by
  unfold digitS
  refine FI.bind (b := b.take c) take_fi ?_ ?_
  · intro r k' h
    have hk' := ((take_gd hk).use h).2
    split
    · exact .ok (Nat.le_refl _) hk'
    · exact .bad ha (by decide)
  · intro r k' h
    split
    · exact .ok
    · exact .bad
theorem numL_gd {b : Bs} {base amp : Int} (ha : amp ≤ b.length) : ∀ {n : Nat} {v : Int} {k : Nat}, k ≤ b.length → Gd b k (numL n b base amp v k)
  | 0, v, k, hk => .bad (by omega) (by decide)
  | n + 1, v, k, hk => by
    rw [numL]
    refine (peek_gd hk).bind ?_
    intro r k' _ h1 h2
    split
    · exact .ok (by have := (peek_inv ‹_›).2.2; omega) hk
    · have e := (peek_inv ‹_›).2.2
      refine Gd.le (k' := k) ?_ (by omega)
      refine (digit_gd ha hk).bind ?_
      intro d k2 _ _ hk2
      split
      · exact .bad ha (by decide)
      · exact numL_gd ha hk2
theorem numL_fi {b : Bs} {c : Nat} {base amp : Int} (ha : amp ≤ (b.take c).length) : ∀ {n m : Nat} {v : Int} {k : Nat}, n ≤ m → k ≤ (b.take c).length → FI c (numL n (b.take c) base amp v k) (numL m b base amp v k)
  | 0, m, v, k, hm, hk => .bad
  | n + 1, 0, v, k, hm, hk => by omega
  | n + 1, m + 1, v, k, hm, hk => by
    rw [numL, numL]
    have hg : ∀ d k2, digitS (b.take c) base amp k = .ok d k2 → Gd (b.take c) k2 (if 1114111 < v * base + d then (.bad amp 2 : R Int) else numL n (b.take c) base amp (v * base + d) k2) := by
      intro d k2 h
      have hk2 := ((digit_gd ha hk).use h).2
      split
      · exact .bad ha (by decide)
      · exact numL_gd ha hk2
    refine FI.bind (b := b.take c) peek_fi ?_ ?_
    · intro r k' h
      have e := (peek_inv h).2.2
      subst e
      split
      · exact .ok (Nat.le_refl _) hk
      · exact (digit_gd ha hk).bind fun d k2 h _ _ => hg d k2 h
    · intro r k' h
      split
      · exact .ok
      · refine FI.bind (b := b.take c) (digit_fi ha hk) hg ?_
        intro d k2 h
        have hk2 := ((digit_gd ha hk).use h).2
        split
        · exact .bad
        · exact numL_fi ha (by omega) hk2
theorem numB_gd {b : Bs} {base amp : Int} {k : Nat} (ha : amp ≤ b.length) (hk : k ≤ b.length) : Gd b k (numB b base amp k) := by
  unfold numB
  refine (digit_gd ha hk).bind fun d k1 _ _ h1 => (numL_gd ha h1).bind fun v k2 _ _ h2 => (take_gd h2).bind fun _ k3 _ _ h3 => ?_
  split
  · exact .ok (Nat.le_refl _) h3
  · exact .bad ha (by decide)
theorem numB_fi {b : Bs} {base amp : Int} {c k : Nat} (hc : c ≤ b.length) (ha : amp ≤ (b.take c).length) (hk : k ≤ (b.take c).length) : FI c (numB (b.take c) base amp k) (numB b base amp k) := by
  have hl : (b.take c).length = c := by simp; omega
  have g3 : ∀ (v : Int) (k3 : Nat), k3 ≤ (b.take c).length → Gd (b.take c) k3 (if isChar v = true then (.ok v k3 : R Int) else .bad amp 2) := by
    intro v k3 h3
    split
    · exact .ok (Nat.le_refl _) h3
    · exact .bad ha (by decide)
  have g2 : ∀ (v : Int) (k2 : Nat), k2 ≤ (b.take c).length → Gd (b.take c) k2 ((takeS (b.take c) k2).bind fun _ k3 => if isChar v = true then (.ok v k3 : R Int) else .bad amp 2) := by
    intro v k2 h2
    exact (take_gd h2).bind fun _ k3 _ _ h3 => g3 v k3 h3
  unfold numB
  refine FI.bind (b := b.take c) (digit_fi ha hk) (fun d k1 h => ?_) (fun d k1 h => ?_)
  · have h1 := ((digit_gd ha hk).use h).2
    exact (numL_gd ha h1).bind fun v k2 _ _ h2 => g2 v k2 h2
  · have h1 := ((digit_gd ha hk).use h).2
    refine FI.bind (b := b.take c) (numL_fi ha (by omega) h1) (fun v k2 h => g2 v k2 ((numL_gd ha h1).use h).2) (fun v k2 h => ?_)
    refine FI.bind (b := b.take c) take_fi (fun _ k3 h3 => g3 v k3 ((take_gd ((numL_gd ha h1).use h).2).use h3).2) (fun _ k3 h3 => ?_)
    split
    · exact .ok
    · exact .bad
theorem number_gd {b : Bs} {amp : Int} {k : Nat} (ha : amp ≤ b.length) (hk : k ≤ b.length) : Gd b k (numberS b amp k) := by
  unfold numberS
  refine (peek_gd hk).bind fun r k' h _ _ => ?_
  have e := (peek_inv h).2.2
  subst e
  split
  · exact (numB_gd ha (ln_le b k' hk)).le (by omega)
  · exact numB_gd ha hk
theorem number_fi {b : Bs} {amp : Int} {c k : Nat} (hc : c ≤ b.length) (ha : amp ≤ (b.take c).length) (hk : k ≤ (b.take c).length) : FI c (numberS (b.take c) amp k) (numberS b amp k) := by
  unfold numberS
  have hle := ln_le (b.take c) k hk
  refine FI.bind (b := b.take c) peek_fi (fun r k' h => ?_) (fun r k' h => ?_)
  · obtain ⟨ho, _, rfl⟩ := peek_inv h
    split
    · exact (numB_gd ha hle).le (by omega)
    · exact numB_gd ha hk
  · obtain ⟨ho, _, rfl⟩ := peek_inv h
    obtain ⟨o1, o2, o3⟩ := okl_take ho
    split
    · rw [o3]; exact numB_fi hc ha hle
    · exact numB_fi hc ha hk
theorem amp_gd {b : Bs} {amp : Int} {k : Nat} (ha : amp ≤ b.length) (hk : k ≤ b.length) : Gd b k (ampS b amp k) := by
  unfold ampS
  refine (peek_gd hk).bind fun r k' h _ _ => ?_
  have e := (peek_inv h).2.2
  subst e
  split
  · exact (word_gd ha hk).bind fun _ _ _ _ h => .ok (Nat.le_refl _) h
  · exact (word_gd ha hk).bind fun _ _ _ _ h => .ok (Nat.le_refl _) h
theorem wordv_gd {b : Bs} {blame v : Int} {w : List Int} {k : Nat} (hb : blame ≤ b.length) (hk : k ≤ b.length) : Gd b k ((wordS b blame w k).bind fun _ k' => (.ok v k' : R Int)) :=
  (word_gd hb hk).bind fun _ _ _ _ h => .ok (Nat.le_refl _) h
theorem wordv_fi {b : Bs} {blame v : Int} {c : Nat} {w : List Int} {k : Nat} (hb : blame ≤ (b.take c).length) (hk : k ≤ (b.take c).length) :
    FI c ((wordS (b.take c) blame w k).bind fun _ k' => (.ok v k' : R Int)) ((wordS b blame w k).bind fun _ k' => (.ok v k' : R Int)) :=
  FI.bind (b := b.take c) (word_fi hb hk) (fun _ k' h => .ok (Nat.le_refl _) ((word_gd hb hk).use h).2) (fun _ _ _ => .ok)
theorem amp_fi {b : Bs} {amp : Int} {c k : Nat} (ha : amp ≤ (b.take c).length) (hk : k ≤ (b.take c).length) : FI c (ampS (b.take c) amp k) (ampS b amp k) := by
  unfold ampS
  refine FI.bind (b := b.take c) peek_fi (fun r k' h => ?_) (fun r k' h => ?_)
  · obtain ⟨ho, _, rfl⟩ := peek_inv h
    split <;> exact wordv_gd ha hk
  · split <;> exact wordv_fi ha hk
theorem ref_gd {b : Bs} {k : Nat} (hk : k ≤ b.length) : Gd b k (refS b k) := by
  unfold refS
  refine (take_gd hk).bind fun _ k1 _ _ h1 => (take_gd h1).bind fun r k2 _ _ h2 => ?_
  have ha : (k : Int) ≤ b.length := by omega
  split
  · exact number_gd ha h2
  split
  · exact wordv_gd ha h2
  split
  · exact wordv_gd ha h2
  split
  · exact wordv_gd ha h2
  split
  · exact amp_gd ha h2
  · exact .bad ha (by decide)
theorem ref_fi {b : Bs} {c k : Nat} (hc : c ≤ b.length) (hk : k ≤ (b.take c).length) : FI c (refS (b.take c) k) (refS b k) := by
  have ha : (k : Int) ≤ (b.take c).length := by omega
  have g2 : ∀ (r : Int) (k2 : Nat), k2 ≤ (b.take c).length → Gd (b.take c) k2 (
    if r = 35 then numberS (b.take c) k k2
    else if r = 108 then (wordS (b.take c) k [116, 59] k2).bind fun _ k' => .ok 60 k'
    else if r = 103 then (wordS (b.take c) k [116, 59] k2).bind fun _ k' => .ok 62 k'
    else if r = 113 then (wordS (b.take c) k [117, 111, 116, 59] k2).bind fun _ k' => .ok 34 k'
    else if r = 97 then ampS (b.take c) k k2
    else .bad k 2) := by
    intro r k2 h2
    split
    · exact number_gd ha h2
    split
    · exact wordv_gd ha h2
    split
    · exact wordv_gd ha h2
    split
    · exact wordv_gd ha h2
    split
    · exact amp_gd ha h2
    · exact .bad ha (by decide)
  unfold refS
  refine FI.bind (b := b.take c) take_fi (fun _ k1 h => (take_gd ((take_gd hk).use h).2).bind fun r k2 _ _ h2 => g2 r k2 h2) (fun _ k1 h1 => ?_)
  have hk1 := ((take_gd hk).use h1).2
  refine FI.bind (b := b.take c) take_fi (fun r k2 h => g2 r k2 ((take_gd hk1).use h).2) (fun r k2 h => ?_)
  have h2 := ((take_gd hk1).use h).2
  split
  · exact number_fi hc ha h2
  split
  · exact wordv_fi ha h2
  split
  · exact wordv_fi ha h2
  split
  · exact wordv_fi ha h2
  split
  · exact amp_fi ha h2
  · exact .bad
theorem put_gd {b : Bs} {T at0 : Int} {out : Bs} {r : Int} {k : Nat} (ha : at0 ≤ b.length) (hk : k ≤ b.length) : Gd b k (putS T at0 out r k) := by
  unfold putS
  split
  · exact .bad ha (by decide)
  · exact .ok (Nat.le_refl _) hk
theorem put_inv {T at0 : Int} {out o : Bs} {r : Int} {k k' : Nat} (h : putS T at0 out r k = .ok o k') : k' = k ∧ o = out ++ enc r ∧ ((out ++ enc r).length : Int) ≤ T := by
  unfold putS at h
  split at h
  · cases h
  · injection h with e1 e2; exact ⟨e2.symm, e1.symm, by omega⟩
theorem put_lim {T T' at0 : Int} {out : Bs} {r : Int} {k : Nat} (hT : T' ≤ T) : Lim (putS T' at0 out r k) (putS T at0 out r k) := by
  unfold putS
  by_cases h : T' < ((out ++ enc r).length : Int)
  · rw [if_pos h]; exact .bad
  · rw [if_neg h, if_neg (by omega)]; exact .rfl
theorem val_gd {b : Bs} {T at0 q : Int} (ha : at0 ≤ b.length) : ∀ {n : Nat} {out : Bs} {k : Nat}, k ≤ b.length → Gd b k (valL n b T at0 q out k)
  | 0, out, k, hk => .bad (by omega) (by decide)
  | n + 1, out, k, hk => by
    rw [valL]
    refine (peek_gd hk).bind fun r k' h _ _ => ?_
    have e := (peek_inv h).2.2
    subst e
    split
    · exact .ok (by omega) (ln_le b k' hk)
    split
    · exact .bad (by omega) (by decide)
    split
    · exact (ref_gd hk).bind fun c k1 _ _ h1 => (put_gd ha h1).bind fun o k2 _ _ h2 => val_gd ha h2
    split
    · exact (line_gd hk).bind fun c k1 _ _ h1 => (put_gd ha h1).bind fun o k2 _ _ h2 => val_gd ha h2
    · exact (take_gd hk).bind fun c k1 _ _ h1 => (put_gd ha h1).bind fun o k2 _ _ h2 => val_gd ha h2
theorem val_fi {b : Bs} {T at0 q : Int} {c : Nat} (hc : c ≤ b.length) (ha : at0 ≤ (b.take c).length) : ∀ {n m : Nat} {out : Bs} {k : Nat}, n ≤ m → k ≤ (b.take c).length → FI c (valL n (b.take c) T at0 q out k) (valL m b T at0 q out k)
  | 0, m, out, k, hm, hk => .bad
  | n + 1, 0, out, k, hm, hk => by omega
  | n + 1, m + 1, out, k, hm, hk => by
    have gp : ∀ (r : Int) (k1 : Nat), k1 ≤ (b.take c).length → Gd (b.take c) k1 ((putS T at0 out r k1).bind fun o k2 => valL n (b.take c) T at0 q o k2) :=
      fun r k1 h1 => (put_gd ha h1).bind fun o k2 _ _ h2 => val_gd ha h2
    have fp : ∀ (r : Int) (k1 : Nat), k1 ≤ (b.take c).length → FI c ((putS T at0 out r k1).bind fun o k2 => valL n (b.take c) T at0 q o k2) ((putS T at0 out r k1).bind fun o k2 => valL m b T at0 q o k2) := by
      intro r k1 h1
      refine FI.bind (b := b.take c) (fun a k h => .inl h) (fun o k2 h => val_gd ha ((put_gd ha h1).use h).2) (fun o k2 h => val_fi hc ha (by omega) ((put_gd ha h1).use h).2)
    rw [valL, valL]
    refine FI.bind (b := b.take c) peek_fi (fun r k' h => ?_) (fun r k' h => ?_)
    · obtain ⟨ho, _, rfl⟩ := peek_inv h
      split
      · exact .ok (by omega) (ln_le _ k' hk)
      split
      · exact .bad (by omega) (by decide)
      split
      · exact (ref_gd hk).bind fun c k1 _ _ h1 => gp c k1 h1
      split
      · exact (line_gd hk).bind fun c k1 _ _ h1 => gp _ k1 h1
      · exact (take_gd hk).bind fun c k1 _ _ h1 => gp c k1 h1
    · obtain ⟨ho, _, rfl⟩ := peek_inv h
      obtain ⟨o1, o2, o3⟩ := okl_take ho
      split
      · rw [o3]; exact .ok
      split
      · exact .bad
      split
      · exact FI.bind (b := b.take c) (ref_fi hc hk) (fun x k1 h => gp x k1 ((ref_gd hk).use h).2) (fun x k1 h => fp x k1 ((ref_gd hk).use h).2)
      split
      · exact FI.bind (b := b.take c) (line_fi hc) (fun x k1 h => gp _ k1 ((line_gd hk).use h).2) (fun x k1 h => fp _ k1 ((line_gd hk).use h).2)
      · exact FI.bind (b := b.take c) take_fi (fun x k1 h => gp x k1 ((take_gd hk).use h).2) (fun x k1 h => fp x k1 ((take_gd hk).use h).2)
theorem val_lim {b : Bs} {T T' at0 q : Int} (hT : T' ≤ T) : ∀ {n : Nat} {out : Bs} {k : Nat}, Lim (valL n b T' at0 q out k) (valL n b T at0 q out k)
  | 0, out, k => .rfl
  | n + 1, out, k => by
    rw [valL, valL]
    refine Lim.rfl.bind fun r _ => ?_
    split
    · exact .rfl
    split
    · exact .rfl
    split
    · exact Lim.rfl.bind fun c k1 => (put_lim hT).bind fun o k2 => val_lim hT
    split
    · exact Lim.rfl.bind fun c k1 => (put_lim hT).bind fun o k2 => val_lim hT
    · exact Lim.rfl.bind fun c k1 => (put_lim hT).bind fun o k2 => val_lim hT
theorem value_gd {b : Bs} {T : Int} {k : Nat} (hk : k ≤ b.length) : Gd b k (valueS b T k) := by
  unfold valueS
  exact (quote_gd hk).bind fun q k1 _ _ h1 => val_gd (by omega) h1
theorem value_fi {b : Bs} {T : Int} {c k : Nat} (hc : c ≤ b.length) (hk : k ≤ (b.take c).length) : FI c (valueS (b.take c) T k) (valueS b T k) := by
  have hl : (b.take c).length = c := by simp; omega
  unfold valueS
  exact FI.bind (b := b.take c) quote_fi (fun q k1 h => val_gd (by omega) ((quote_gd hk).use h).2) (fun q k1 h => val_fi hc (by omega) (by omega) ((quote_gd hk).use h).2)
theorem value_lim {b : Bs} {T T' : Int} {k : Nat} (hT : T' ≤ T) : Lim (valueS b T' k) (valueS b T k) := by
  unfold valueS
  exact Lim.rfl.bind fun q k1 => val_lim hT
theorem eq_gd {b : Bs} {k : Nat} (hk : k ≤ b.length) : Gd b k (eqS b k) := by
  unfold eqS
  exact (blanks_gd hk).bind fun _ k1 _ _ h1 => (sign_gd h1).bind fun _ k2 _ _ h2 => (blanks_gd h2).bind fun _ k3 _ _ h3 => .ok (Nat.le_refl _) h3
theorem eq_fi {b : Bs} {c k : Nat} (hc : c ≤ b.length) (hk : k ≤ (b.take c).length) : FI c (eqS (b.take c) k) (eqS b k) := by
  have hl : (b.take c).length = c := by simp; omega
  unfold eqS
  refine FI.bind (b := b.take c) (blanks_fi hc (by omega)) (fun _ k1 h => (sign_gd ((blanks_gd hk).use h).2).bind fun _ k2 _ _ h2 => (blanks_gd h2).bind fun _ k3 _ _ h3 => .ok (Nat.le_refl _) h3) (fun _ k1 h => ?_)
  have h1 := ((blanks_gd hk).use h).2
  refine FI.bind (b := b.take c) sign_fi (fun _ k2 h => (blanks_gd ((sign_gd h1).use h).2).bind fun _ k3 _ _ h3 => .ok (Nat.le_refl _) h3) (fun _ k2 h => ?_)
  have h2 := ((sign_gd h1).use h).2
  exact FI.bind (b := b.take c) (blanks_fi hc (by omega)) (fun _ k3 h => .ok (Nat.le_refl _) ((blanks_gd h2).use h).2) (fun _ k3 h => .ok)
theorem attr_gd {b : Bs} {T : Int} {l : List At} {k : Nat} (hk : k ≤ b.length) : Gd b k (attrS b T l k) := by
  unfold attrS
  refine (name_gd hk).bind fun nm k1 _ _ h1 => (peek_gd h1).bind fun _ k2 _ h2a h2 => ?_
  split
  · exact .bad (by omega) (by decide)
  · have e := (peek_inv ‹_›).2.2
    subst e
    exact (eq_gd h1).bind fun _ k2 _ _ h2 => (value_gd h2).bind fun v k3 _ _ h3 => .ok (Nat.le_refl _) h3
theorem attr_fi {b : Bs} {T : Int} {l : List At} {c k : Nat} (hc : c ≤ b.length) (hk : k ≤ (b.take c).length) : FI c (attrS (b.take c) T l k) (attrS b T l k) := by
  have hl : (b.take c).length = c := by simp; omega
  have g1 : ∀ (nm : Bs) (k1 : Nat), k1 ≤ (b.take c).length → Gd (b.take c) k1 ((eqS (b.take c) k1).bind fun _ k2 => (valueS (b.take c) T k2).bind fun v k3 => (.ok ⟨nm, v, k⟩ k3 : R At)) :=
    fun nm k1 h1 => (eq_gd h1).bind fun _ k2 _ _ h2 => (value_gd h2).bind fun v k3 _ _ h3 => .ok (Nat.le_refl _) h3
  have g0 : ∀ (nm : Bs) (k1 : Nat), k1 ≤ (b.take c).length → Gd (b.take c) k1 (if (l.any fun a => a.name == nm) = true then (.bad k 2 : R At) else (eqS (b.take c) k1).bind fun _ k2 => (valueS (b.take c) T k2).bind fun v k3 => (.ok ⟨nm, v, k⟩ k3 : R At)) := by
    intro nm k1 h1
    split
    · exact .bad (by omega) (by decide)
    · exact g1 nm k1 h1
  unfold attrS
  refine FI.bind (b := b.take c) (name_fi hc (by omega)) (fun nm k1 h => (peek_gd ((name_gd hk).use h).2).bind fun _ k2 h2 _ _ => ?_) (fun nm k1 h => ?_)
  · obtain ⟨_, _, rfl⟩ := peek_inv h2
    exact g0 nm k2 ((name_gd hk).use h).2
  · have h1 := ((name_gd hk).use h).2
    refine FI.bind (b := b.take c) peek_fi (fun _ k2 h2 => ?_) (fun _ k2 h2 => ?_)
    · obtain ⟨_, _, rfl⟩ := peek_inv h2
      exact g0 nm k2 h1
    · split
      · exact .bad
      · refine FI.bind (b := b.take c) (eq_fi hc h1) (fun _ k2 h => (value_gd ((eq_gd h1).use h).2).bind fun v k3 _ _ h3 => .ok (Nat.le_refl _) h3) (fun _ k2 h => ?_)
        have h2 := ((eq_gd h1).use h).2
        exact FI.bind (b := b.take c) (value_fi hc h2) (fun v k3 h => .ok (Nat.le_refl _) ((value_gd h2).use h).2) (fun v k3 h => .ok)
theorem attr_lim {b : Bs} {T T' : Int} {l : List At} {k : Nat} (hT : T' ≤ T) : Lim (attrS b T' l k) (attrS b T l k) := by
  unfold attrS
  refine (name_lim hT).bind fun nm k1 => Lim.rfl.bind fun _ _ => ?_
  split
  · exact .rfl
  · exact Lim.rfl.bind fun _ k2 => (value_lim hT).bind fun v k3 => .rfl
theorem attrs_gd {b : Bs} {A T : Int} : ∀ {n : Nat} {l : List At} {k : Nat}, k ≤ b.length → Gd b k (attrsL n b A T l k)
  | 0, l, k, hk => .bad (by omega) (by decide)
  | n + 1, l, k, hk => by
    rw [attrsL]
    refine (blanks_gd hk).bind fun gap k1 _ _ h1 => (peek_gd h1).bind fun r k' h _ _ => ?_
    obtain ⟨_, _, rfl⟩ := peek_inv h
    have hle := ln_le b k' h1
    split
    · exact .ok (by omega) hle
    split
    · exact ((sign_gd hle).bind fun _ k2 _ _ h2 => .ok (Nat.le_refl _) h2).le (by omega)
    split
    · exact .bad (by omega) (by decide)
    split
    · exact .bad (by omega) (by decide)
    · exact (attr_gd h1).bind fun a k2 _ _ h2 => attrs_gd h2
/-- At the end of the bytes there is no tag's end. -/
theorem attrs_end {b : Bs} {A T : Int} {n : Nat} {l : List At} {k : Nat} (hk : b.length ≤ k) (r : List At × Option Int) (k' : Nat) : attrsL n b A T l k ≠ .ok r k' := by
  cases n with
  | zero => intro h; cases h
  | succ n =>
    intro h
    rw [attrsL] at h
    obtain ⟨g, k1, h1, h2⟩ := bind_inv h
    obtain ⟨x, k2, h3, h4⟩ := bind_inv h2
    obtain ⟨ho, _, _⟩ := peek_inv h3
    have hlt := okl_lt ho
    unfold blanksS at h1
    have e : b.length - k = 0 := by omega
    rw [e, blkS, bind_ok] at h1
    injection h1 with e1 e2
    omega
/-- A tag's attributes by a front: just the same of the whole. -/
theorem attrs_fe {b : Bs} {A T : Int} {c : Nat} (hc : c ≤ b.length) : ∀ {n m : Nat} {l : List At} {k : Nat} {r : List At × Option Int} {k' : Nat}, n ≤ m → k ≤ (b.take c).length → attrsL n (b.take c) A T l k = .ok r k' → attrsL m b A T l k = .ok r k'
  | 0, m, l, k, r, k', hm, hk, h => by cases h
  | n + 1, 0, l, k, r, k', hm, hk, h => by omega
  | n + 1, m + 1, l, k, r, k', hm, hk, h => by
    have hl : (b.take c).length = c := by simp; omega
    rw [attrsL] at h
    obtain ⟨g, k1, h1, h2⟩ := bind_inv h
    obtain ⟨x, k2, h3, h4⟩ := bind_inv h2
    obtain ⟨ho, hx, e⟩ := peek_inv h3
    subst e
    subst hx
    have hlt := okl_lt ho
    obtain ⟨o1, o2, o3⟩ := okl_take ho
    have hle := ln_le (b.take c) k2 (by omega)
    rcases blanks_fi hc (by omega) g k2 h1 with hb | hb
    · rw [attrsL, hb, bind_ok]
      rw [peekS, if_pos o1, bind_ok, o2, o3]
      split at h4
      · rename_i q1
        rw [if_pos q1]; exact h4
      · rename_i q1
        rw [if_neg q1]
        split at h4
        · rename_i q2
          rw [if_pos q2]
          obtain ⟨y, k3, h5, h6⟩ := bind_inv h4
          cases y
          rw [sign_fe h5, bind_ok]
          exact h6
        · rename_i q2
          rw [if_neg q2]
          split at h4
          · cases h4
          · rename_i q3
            rw [if_neg q3]
            split at h4
            · cases h4
            · rename_i q4
              rw [if_neg q4]
              obtain ⟨a, k3, h5, h6⟩ := bind_inv h4
              have hk3 := ((attr_gd (by omega)).use h5).2
              rcases attr_fi hc (by omega) a k3 h5 with h7 | h7
              · rw [h7, bind_ok]
                exact attrs_fe hc (by omega) hk3 h6
              · exact absurd h6 (attrs_end (by omega) _ _)
    · omega
theorem attrs_lim {b : Bs} {A A' T T' : Int} (hT : T' ≤ T) (hA : A' ≤ A) : ∀ {n : Nat} {l : List At} {k : Nat}, (l.length : Int) ≤ A' → Lim (attrsL n b A' T' l k) (attrsL n b A T l k)
  | 0, l, k, hl => .rfl
  | n + 1, l, k, hl => by
    rw [attrsL, attrsL]
    refine Lim.rfl.bind fun gap k1 => Lim.rfl.bind fun r _ => ?_
    split
    · exact .rfl
    split
    · exact .rfl
    split
    · exact .rfl
    by_cases h : (l.length : Int) = A'
    · rw [if_pos h]; exact .bad
    · rw [if_neg h, if_neg (by omega)]
      exact (attr_lim hT).bind fun a k2 => attrs_lim hT hA (by simp; omega)
end Go.Proofs.YtjcgnbmpnaapdaaDoor.M
namespace Go.Proofs.YtjcgnbmpnaapdaaDoor.M
set_option linter.unusedVariables false
variable {α β : Type}

theorem noteL_gd {b : Bs} : ∀ {n d k : Nat}, k ≤ b.length → Gd b k (noteL n b d k)
  | 0, d, k, hk => .bad (by omega) (by decide)
  | n + 1, d, k, hk => by
    rw [noteL]
    refine (take_gd hk).bind fun r k' _ _ h1 => ?_
    split
    · split
      · exact .ok (Nat.le_refl _) h1
      · exact .bad (by omega) (by decide)
    split
    · exact noteL_gd h1
    · exact noteL_gd h1
theorem noteL_fi {b : Bs} {c : Nat} : ∀ {n m d k : Nat}, n ≤ m → k ≤ (b.take c).length → FI c (noteL n (b.take c) d k) (noteL m b d k)
  | 0, m, d, k, hm, hk => .bad
  | n + 1, 0, d, k, hm, hk => by omega
  | n + 1, m + 1, d, k, hm, hk => by
    rw [noteL, noteL]
    refine FI.bind (b := b.take c) take_fi (fun r k' h => ?_) (fun r k' h => ?_)
    · have h1 := ((take_gd hk).use h).2
      split
      · split
        · exact .ok (Nat.le_refl _) h1
        · exact .bad (by omega) (by decide)
      split
      · exact noteL_gd h1
      · exact noteL_gd h1
    · have h1 := ((take_gd hk).use h).2
      split
      · split
        · exact .ok
        · exact .bad
      split
      · exact noteL_fi (by omega) h1
      · exact noteL_fi (by omega) h1
theorem note_gd {b : Bs} {lt0 : Int} {k : Nat} (ha : lt0 ≤ b.length) (hk : k ≤ b.length) : Gd b k (noteS b lt0 k) := by
  unfold noteS
  exact (word_gd ha hk).bind fun _ k' _ _ h => noteL_gd h
theorem note_fi {b : Bs} {lt0 : Int} {c k : Nat} (hc : c ≤ b.length) (ha : lt0 ≤ (b.take c).length) (hk : k ≤ (b.take c).length) : FI c (noteS (b.take c) lt0 k) (noteS b lt0 k) := by
  have hl : (b.take c).length = c := by simp; omega
  unfold noteS
  exact FI.bind (b := b.take c) (word_fi ha hk) (fun _ k' h => noteL_gd ((word_gd ha hk).use h).2) (fun _ k' h => noteL_fi (by omega) ((word_gd ha hk).use h).2)
theorem instL_gd {b : Bs} : ∀ {n : Nat} {a : Bool} {k : Nat}, k ≤ b.length → Gd b k (instL n b a k)
  | 0, a, k, hk => .bad (by omega) (by decide)
  | n + 1, a, k, hk => by
    rw [instL]
    refine (take_gd hk).bind fun r k' _ _ h1 => ?_
    split
    · exact .ok (Nat.le_refl _) h1
    · exact instL_gd h1
theorem instL_fi {b : Bs} {c : Nat} : ∀ {n m : Nat} {a : Bool} {k : Nat}, n ≤ m → k ≤ (b.take c).length → FI c (instL n (b.take c) a k) (instL m b a k)
  | 0, m, a, k, hm, hk => .bad
  | n + 1, 0, a, k, hm, hk => by omega
  | n + 1, m + 1, a, k, hm, hk => by
    rw [instL, instL]
    refine FI.bind (b := b.take c) take_fi (fun r k' h => ?_) (fun r k' h => ?_)
    · have h1 := ((take_gd hk).use h).2
      split
      · exact .ok (Nat.le_refl _) h1
      · exact instL_gd h1
    · have h1 := ((take_gd hk).use h).2
      split
      · exact .ok
      · exact instL_fi (by omega) h1
theorem inst_gd {b : Bs} {T : Int} {k : Nat} (hk : k ≤ b.length) : Gd b k (instS b T k) := by
  unfold instS
  refine (take_gd hk).bind fun _ k1 _ _ h1 => (name_gd h1).bind fun nm k2 _ _ h2 => (peek_gd h2).bind fun _ k' h _ _ => ?_
  obtain ⟨_, _, rfl⟩ := peek_inv h
  split
  · exact .bad (by omega) (by decide)
  refine (blanks_gd h2).bind fun gap k3 _ _ h3 => ?_
  split
  · exact instL_gd h3
  · exact (sign_gd h3).bind fun _ k4 _ _ h4 => sign_gd h4
theorem inst_fi {b : Bs} {T : Int} {c k : Nat} (hc : c ≤ b.length) (hk : k ≤ (b.take c).length) : FI c (instS (b.take c) T k) (instS b T k) := by
  have hl : (b.take c).length = c := by simp; omega
  have g3 : ∀ (gap : Bool) (k3 : Nat), k3 ≤ (b.take c).length → Gd (b.take c) k3 (if gap = true then instL ((b.take c).length + 1) (b.take c) false k3 else (signS (b.take c) 63 k3).bind fun _ k4 => signS (b.take c) 62 k4) := by
    intro gap k3 h3
    split
    · exact instL_gd h3
    · exact (sign_gd h3).bind fun _ k4 _ _ h4 => sign_gd h4
  have g2 : ∀ (nm : Bs) (k1 k2 : Nat), k1 ≤ (b.take c).length → k2 ≤ (b.take c).length → Gd (b.take c) k2 (if foldX nm = true then (.bad k1 2 : R Unit) else (blanksS (b.take c) k2).bind fun gap k3 => if gap = true then instL ((b.take c).length + 1) (b.take c) false k3 else (signS (b.take c) 63 k3).bind fun _ k4 => signS (b.take c) 62 k4) := by
    intro nm k1 k2 h1 h2
    split
    · exact .bad (by omega) (by decide)
    · exact (blanks_gd h2).bind fun gap k3 _ _ h3 => g3 gap k3 h3
  have g1 : ∀ (nm : Bs) (k1 k2 : Nat), k1 ≤ (b.take c).length → k2 ≤ (b.take c).length → Gd (b.take c) k2 ((peekS (b.take c) k2).bind fun _ _ => if foldX nm = true then (.bad k1 2 : R Unit) else (blanksS (b.take c) k2).bind fun gap k3 => if gap = true then instL ((b.take c).length + 1) (b.take c) false k3 else (signS (b.take c) 63 k3).bind fun _ k4 => signS (b.take c) 62 k4) := by
    intro nm k1 k2 h1 h2
    refine (peek_gd h2).bind fun _ k' h _ _ => ?_
    obtain ⟨_, _, rfl⟩ := peek_inv h
    exact g2 nm k1 k' h1 h2
  unfold instS
  refine FI.bind (b := b.take c) take_fi (fun _ k1 h => (name_gd ((take_gd hk).use h).2).bind fun nm k2 _ _ h2 => g1 nm k1 k2 ((take_gd hk).use h).2 h2) (fun _ k1 h => ?_)
  have h1 := ((take_gd hk).use h).2
  refine FI.bind (b := b.take c) (name_fi hc (by omega)) (fun nm k2 h => g1 nm k1 k2 h1 ((name_gd h1).use h).2) (fun nm k2 h => ?_)
  have h2 := ((name_gd h1).use h).2
  refine FI.bind (b := b.take c) peek_fi (fun _ k' h => ?_) (fun _ k' h => ?_)
  · obtain ⟨_, _, rfl⟩ := peek_inv h
    exact g2 nm k1 k' h1 h2
  · split
    · exact .bad
    refine FI.bind (b := b.take c) (blanks_fi hc (by omega)) (fun gap k3 h => g3 gap k3 ((blanks_gd h2).use h).2) (fun gap k3 h => ?_)
    have h3 := ((blanks_gd h2).use h).2
    split
    · exact instL_fi (by omega) h3
    · exact FI.bind (b := b.take c) sign_fi (fun _ k4 h => sign_gd ((sign_gd h3).use h).2) (fun _ k4 h => sign_fi)
theorem inst_lim {b : Bs} {T T' : Int} {k : Nat} (hT : T' ≤ T) : Lim (instS b T' k) (instS b T k) := by
  unfold instS
  exact Lim.rfl.bind fun _ k1 => (name_lim hT).bind fun nm k2 => .rfl
theorem Gd.eqk {b : Bs} {k k' : Nat} {x : R α} (h : Gd b k x) (hk : k' = k) : Gd b k' x := by subst hk; exact h
theorem putR_gd {b : Bs} {T at0 : Int} (ha : at0 ≤ b.length) : ∀ {h : Nat} {out : Bs} {k : Nat}, k ≤ b.length → Gd b k (putR T at0 h out k)
  | 0, out, k, hk => .ok (Nat.le_refl _) hk
  | h + 1, out, k, hk => by
    rw [putR]
    refine (put_gd ha hk).bind fun o k1 hh h1 h2 => ?_
    exact Gd.eqk (putR_gd ha hk) (put_inv hh).1
theorem putR_k {T at0 : Int} : ∀ {h : Nat} {out o : Bs} {k k' : Nat}, putR T at0 h out k = .ok o k' → k' = k
  | 0, out, o, k, k', hh => by rw [putR] at hh; injection hh with _ e; exact e.symm
  | h + 1, out, o, k, k', hh => by
    rw [putR] at hh
    obtain ⟨x, j, h1, h2⟩ := bind_inv hh
    exact putR_k h2
theorem putR_lim {T T' at0 : Int} (hT : T' ≤ T) : ∀ {h : Nat} {out : Bs} {k : Nat}, Lim (putR T' at0 h out k) (putR T at0 h out k)
  | 0, out, k => .rfl
  | h + 1, out, k => by
    rw [putR, putR]
    exact (put_lim hT).bind fun o _ => putR_lim hT
theorem cd_gd {b : Bs} {T at0 : Int} (ha : at0 ≤ b.length) : ∀ {n h : Nat} {out : Bs} {k : Nat}, k ≤ b.length → Gd b k (cdL n b T at0 h out k)
  | 0, h, out, k, hk => .bad (by omega) (by decide)
  | n + 1, h, out, k, hk => by
    rw [cdL]
    refine (line_gd hk).bind fun r k' _ _ h1 => ?_
    split
    · split
      · exact cd_gd ha h1
      · refine (put_gd ha h1).bind fun o k2 hh _ _ => ?_
        exact (cd_gd ha h1).eqk (put_inv hh).1
    split
    · exact .ok (Nat.le_refl _) h1
    refine (putR_gd ha h1).bind fun o k2 hh _ _ => ?_
    refine Gd.eqk (k := k') ?_ (putR_k hh)
    refine (put_gd ha h1).bind fun o2 k3 hh _ _ => ?_
    exact (cd_gd ha h1).eqk (put_inv hh).1
theorem cd_fi {b : Bs} {T at0 : Int} {c : Nat} (hc : c ≤ b.length) (ha : at0 ≤ (b.take c).length) : ∀ {n m h : Nat} {out : Bs} {k : Nat}, n ≤ m → k ≤ (b.take c).length → FI c (cdL n (b.take c) T at0 h out k) (cdL m b T at0 h out k)
  | 0, m, h, out, k, hm, hk => .bad
  | n + 1, 0, h, out, k, hm, hk => by omega
  | n + 1, m + 1, h, out, k, hm, hk => by
    have gA : ∀ (o : Bs) (r : Int) (h : Nat) (k' : Nat), k' ≤ (b.take c).length → Gd (b.take c) k' ((putS T at0 o r k').bind fun o2 _ => cdL n (b.take c) T at0 h o2 k') := by
      intro o r h k' h1
      refine (put_gd ha h1).bind fun o2 k3 hh _ _ => ?_
      exact (cd_gd ha h1).eqk (put_inv hh).1
    have fA : ∀ (o : Bs) (r : Int) (h : Nat) (k' : Nat), k' ≤ (b.take c).length → FI c ((putS T at0 o r k').bind fun o2 _ => cdL n (b.take c) T at0 h o2 k') ((putS T at0 o r k').bind fun o2 _ => cdL m b T at0 h o2 k') := by
      intro o r h k' h1
      refine FI.bind (b := b.take c) (fun a k h => .inl h) (fun o2 k3 hh => (cd_gd ha h1).eqk (put_inv hh).1) (fun o2 k3 hh => cd_fi hc ha (by omega) h1)
    rw [cdL, cdL]
    refine FI.bind (b := b.take c) (line_fi hc) (fun r k' h => ?_) (fun r k' h => ?_)
    · have h1 := ((line_gd hk).use h).2
      split
      · split
        · exact cd_gd ha h1
        · exact gA _ _ _ _ h1
      split
      · exact .ok (Nat.le_refl _) h1
      refine (putR_gd ha h1).bind fun o k2 hh _ _ => ?_
      exact Gd.eqk (k := k') (gA _ _ _ _ h1) (putR_k hh)
    · have h1 := ((line_gd hk).use h).2
      split
      · split
        · exact cd_fi hc ha (by omega) h1
        · exact fA _ _ _ _ h1
      split
      · exact .ok
      · exact FI.bind (b := b.take c) (fun a k h => .inl h) (fun o k2 hh => Gd.eqk (k := k') (gA _ _ _ _ h1) (putR_k hh)) (fun o k2 hh => fA _ _ _ _ h1)
theorem cd_lim {b : Bs} {T T' at0 : Int} (hT : T' ≤ T) : ∀ {n h : Nat} {out : Bs} {k : Nat}, Lim (cdL n b T' at0 h out k) (cdL n b T at0 h out k)
  | 0, h, out, k => .rfl
  | n + 1, h, out, k => by
    rw [cdL, cdL]
    refine Lim.rfl.bind fun r k' => ?_
    split
    · split
      · exact cd_lim hT
      · exact (put_lim hT).bind fun o _ => cd_lim hT
    split
    · exact .rfl
    · exact (putR_lim hT).bind fun o _ => (put_lim hT).bind fun o2 _ => cd_lim hT
theorem set_gd {b : Bs} {w : List Int} {val : Nat → R Unit} {k : Nat} (hv : ∀ k, k ≤ b.length → Gd b k (val k)) (hk : k ≤ b.length) : Gd b k (setS b w val k) := by
  unfold setS
  exact (word_gd (by omega) hk).bind fun _ k1 _ _ h1 => (eq_gd h1).bind fun _ k2 _ _ h2 => (quote_gd h2).bind fun q k3 _ _ h3 => (hv k3 h3).bind fun _ k4 _ _ h4 => sign_gd h4
theorem set_fi {b : Bs} {w : List Int} {val val' : Nat → R Unit} {c k : Nat} (hc : c ≤ b.length) (hv : ∀ k, k ≤ (b.take c).length → Gd (b.take c) k (val' k)) (hf : ∀ k, k ≤ (b.take c).length → FI c (val' k) (val k)) (hk : k ≤ (b.take c).length) : FI c (setS (b.take c) w val' k) (setS b w val k) := by
  have hl : (b.take c).length = c := by simp; omega
  unfold setS
  refine FI.bind (b := b.take c) (word_fi (by omega) hk) (fun _ k1 h => (eq_gd ((word_gd (by omega) hk).use h).2).bind fun _ k2 _ _ h2 => (quote_gd h2).bind fun q k3 _ _ h3 => (hv k3 h3).bind fun _ k4 _ _ h4 => sign_gd h4) (fun _ k1 h => ?_)
  have h1 := ((word_gd (by omega) hk).use h).2
  refine FI.bind (b := b.take c) (eq_fi hc h1) (fun _ k2 h => (quote_gd ((eq_gd h1).use h).2).bind fun q k3 _ _ h3 => (hv k3 h3).bind fun _ k4 _ _ h4 => sign_gd h4) (fun _ k2 h => ?_)
  have h2 := ((eq_gd h1).use h).2
  refine FI.bind (b := b.take c) quote_fi (fun q k3 h => (hv k3 ((quote_gd h2).use h).2).bind fun _ k4 _ _ h4 => sign_gd h4) (fun q k3 h => ?_)
  have h3 := ((quote_gd h2).use h).2
  exact FI.bind (b := b.take c) (hf k3 h3) (fun _ k4 h => sign_gd ((hv k3 h3).use h).2) (fun _ k4 h => sign_fi)
theorem encL_gd {b : Bs} {blame : Int} (hb : blame ≤ b.length) : ∀ {w : List (Int × Int)} {k : Nat}, k ≤ b.length → Gd b k (encL b blame w k)
  | [], k, hk => .ok (Nat.le_refl _) hk
  | x :: w, k, hk => by
    rw [encL]
    refine (take_gd hk).bind ?_
    intro r k' _ _ hk'
    split
    · exact encL_gd hb hk'
    · exact .bad hb (by decide)
theorem encL_fi {b : Bs} {c : Nat} {blame : Int} (hb : blame ≤ (b.take c).length) : ∀ {w : List (Int × Int)} {k : Nat}, k ≤ (b.take c).length → FI c (encL (b.take c) blame w k) (encL b blame w k)
  | [], k, hk => .ok
  | x :: w, k, hk => by
    rw [encL, encL]
    refine FI.bind (b := b.take c) take_fi ?_ ?_
    · intro r k' h
      have hk' := ((take_gd hk).use h).2
      split
      · exact encL_gd hb hk'
      · exact .bad hb (by decide)
    · intro r k' h
      have hk' := ((take_gd hk).use h).2
      split
      · exact encL_fi hb hk'
      · exact .bad
theorem sta_gd {b : Bs} {k : Nat} (hk : k ≤ b.length) : Gd b k (staS b k) := by
  unfold staS
  refine (peek_gd hk).bind fun r k' h _ _ => ?_
  obtain ⟨_, _, rfl⟩ := peek_inv h
  split <;> exact word_gd (by omega) hk
theorem sta_fi {b : Bs} {c k : Nat} (hk : k ≤ (b.take c).length) : FI c (staS (b.take c) k) (staS b k) := by
  unfold staS
  refine FI.bind (b := b.take c) peek_fi (fun r k' h => ?_) (fun r k' h => ?_)
  · obtain ⟨_, _, rfl⟩ := peek_inv h
    split <;> exact word_gd (by omega) hk
  · split <;> exact word_fi (by omega) hk
theorem dec1_gd {b : Bs} {g : Bool} {k : Nat} (hk : k ≤ b.length) : Gd b k (dec1S b g k) := by
  unfold dec1S
  split
  · refine (peek_gd hk).bind fun r k' h _ _ => ?_
    obtain ⟨_, _, rfl⟩ := peek_inv h
    split
    · exact (set_gd (fun k hk => encL_gd (by omega) hk) hk).bind fun _ k1 _ _ h1 => blanks_gd h1
    · exact .ok (Nat.le_refl _) hk
  · exact .ok (Nat.le_refl _) hk
theorem dec1_fi {b : Bs} {g : Bool} {c k : Nat} (hc : c ≤ b.length) (hk : k ≤ (b.take c).length) : FI c (dec1S (b.take c) g k) (dec1S b g k) := by
  have hl : (b.take c).length = c := by simp; omega
  have hg := set_gd (b := b.take c) (w := [101, 110, 99, 111, 100, 105, 110, 103]) (val := encS (b.take c)) (fun k hk => encL_gd (by omega) hk) hk
  unfold dec1S
  split
  · refine FI.bind (b := b.take c) peek_fi (fun r k' h => ?_) (fun r k' h => ?_)
    · obtain ⟨_, _, rfl⟩ := peek_inv h
      split
      · exact hg.bind fun _ k1 _ _ h1 => blanks_gd h1
      · exact .ok (Nat.le_refl _) hk
    · split
      · exact FI.bind (b := b.take c) (set_fi hc (fun k hk => encL_gd (by omega) hk) (fun k hk => encL_fi (by omega) hk) hk) (fun _ k1 h => blanks_gd (hg.use h).2) (fun _ k1 h => blanks_fi hc (by have := (hg.use h).2; omega))
      · exact .ok
  · exact .ok
theorem dec2_gd {b : Bs} {g : Bool} {k : Nat} (hk : k ≤ b.length) : Gd b k (dec2S b g k) := by
  unfold dec2S
  split
  · refine (peek_gd hk).bind fun r k' h _ _ => ?_
    obtain ⟨_, _, rfl⟩ := peek_inv h
    split
    · exact (set_gd (fun k hk => sta_gd hk) hk).bind fun _ k1 _ _ h1 => (blanks_gd h1).bind fun _ k2 _ _ h2 => .ok (Nat.le_refl _) h2
    · exact .ok (Nat.le_refl _) hk
  · exact .ok (Nat.le_refl _) hk
theorem dec2_fi {b : Bs} {g : Bool} {c k : Nat} (hc : c ≤ b.length) (hk : k ≤ (b.take c).length) : FI c (dec2S (b.take c) g k) (dec2S b g k) := by
  have hl : (b.take c).length = c := by simp; omega
  have hg := set_gd (b := b.take c) (w := [115, 116, 97, 110, 100, 97, 108, 111, 110, 101]) (val := staS (b.take c)) (fun k hk => sta_gd hk) hk
  unfold dec2S
  split
  · refine FI.bind (b := b.take c) peek_fi (fun r k' h => ?_) (fun r k' h => ?_)
    · obtain ⟨_, _, rfl⟩ := peek_inv h
      split
      · exact hg.bind fun _ k1 _ _ h1 => (blanks_gd h1).bind fun _ k2 _ _ h2 => .ok (Nat.le_refl _) h2
      · exact .ok (Nat.le_refl _) hk
    · split
      · refine FI.bind (b := b.take c) (set_fi hc (fun k hk => sta_gd hk) (fun k hk => sta_fi hk) hk) (fun _ k1 h => (blanks_gd (hg.use h).2).bind fun _ k2 _ _ h2 => .ok (Nat.le_refl _) h2) (fun _ k1 h => ?_)
        have h1 := (hg.use h).2
        exact FI.bind (b := b.take c) (blanks_fi hc (by omega)) (fun _ k2 h => .ok (Nat.le_refl _) ((blanks_gd h1).use h).2) (fun _ _ _ => .ok)
      · exact .ok
  · exact .ok
theorem decl_gd {b : Bs} (hk : 5 ≤ b.length) : Gd b 5 (declS b) := by
  unfold declS
  refine (blanks_gd hk).bind fun _ k1 _ _ h1 => (set_gd (fun k hk => word_gd (by omega) hk) h1).bind fun _ k2 _ _ h2 => (blanks_gd h2).bind fun gap k3 _ _ h3 => (dec1_gd h3).bind fun g2 k4 _ _ h4 => (dec2_gd h4).bind fun _ k5 _ _ h5 => (sign_gd h5).bind fun _ k6 _ _ h6 => sign_gd h6
theorem decl_fi {b : Bs} {c : Nat} (hc : c ≤ b.length) (hk : 5 ≤ (b.take c).length) : FI c (declS (b.take c)) (declS b) := by
  have hl : (b.take c).length = c := by simp; omega
  have hv : ∀ k, k ≤ (b.take c).length → Gd (b.take c) k (verS (b.take c) k) := fun k hk => word_gd (by omega) hk
  have s5 : ∀ k5, k5 ≤ (b.take c).length → Gd (b.take c) k5 ((signS (b.take c) 63 k5).bind fun _ k6 => signS (b.take c) 62 k6) := fun k5 h5 => (sign_gd h5).bind fun _ k6 _ _ h6 => sign_gd h6
  have s4 : ∀ g k4, k4 ≤ (b.take c).length → Gd (b.take c) k4 ((dec2S (b.take c) g k4).bind fun _ k5 => (signS (b.take c) 63 k5).bind fun _ k6 => signS (b.take c) 62 k6) := fun g k4 h4 => (dec2_gd h4).bind fun _ k5 _ _ h5 => s5 k5 h5
  have s3 : ∀ g k3, k3 ≤ (b.take c).length → Gd (b.take c) k3 ((dec1S (b.take c) g k3).bind fun g2 k4 => (dec2S (b.take c) g2 k4).bind fun _ k5 => (signS (b.take c) 63 k5).bind fun _ k6 => signS (b.take c) 62 k6) := fun g k3 h3 => (dec1_gd h3).bind fun g2 k4 _ _ h4 => s4 g2 k4 h4
  unfold declS
  refine FI.bind (b := b.take c) (blanks_fi hc (by omega)) (fun _ k1 h => (set_gd hv ((blanks_gd hk).use h).2).bind fun _ k2 _ _ h2 => (blanks_gd h2).bind fun gap k3 _ _ h3 => s3 gap k3 h3) (fun _ k1 h => ?_)
  have h1 := ((blanks_gd hk).use h).2
  refine FI.bind (b := b.take c) (set_fi hc hv (fun k hk => word_fi (by omega) hk) h1) (fun _ k2 h => (blanks_gd ((set_gd hv h1).use h).2).bind fun gap k3 _ _ h3 => s3 gap k3 h3) (fun _ k2 h => ?_)
  have h2 := ((set_gd hv h1).use h).2
  refine FI.bind (b := b.take c) (blanks_fi hc (by omega)) (fun g k3 h => s3 g k3 ((blanks_gd h2).use h).2) (fun g k3 h => ?_)
  have h3 := ((blanks_gd h2).use h).2
  refine FI.bind (b := b.take c) (dec1_fi hc h3) (fun g k4 h => s4 g k4 ((dec1_gd h3).use h).2) (fun g k4 h => ?_)
  have h4 := ((dec1_gd h3).use h).2
  refine FI.bind (b := b.take c) (dec2_fi hc h4) (fun _ k5 h => s5 k5 ((dec2_gd h4).use h).2) (fun _ k5 h => ?_)
  have h5 := ((dec2_gd h4).use h).2
  exact FI.bind (b := b.take c) sign_fi (fun _ k6 h => sign_gd ((sign_gd h5).use h).2) (fun _ k6 h => sign_fi)
end Go.Proofs.YtjcgnbmpnaapdaaDoor.M
namespace Go.Proofs.YtjcgnbmpnaapdaaDoor.M
set_option linter.unusedVariables false
variable {α β : Type}

theorem q_go {x : R α} {f : α → Nat → Q} {s : S} (h : x.q f = .go s) : ∃ a k, x = .ok a k ∧ f a k = .go s := by
  cases x with
  | ok a k => exact ⟨a, k, rfl, h⟩
  | bad p e => cases h
theorem q_bad {x : R α} {f : α → Nat → Q} {p e : Int} (h : x.q f = .bad p e) : x = .bad p e ∨ ∃ a k, x = .ok a k ∧ f a k = .bad p e := by
  cases x with
  | ok a k => exact .inr ⟨a, k, rfl, h⟩
  | bad p e => injection h with h1 h2; subst h1; subst h2; exact .inl rfl
theorem Gd.isbad {b : Bs} {k : Nat} {x : R α} {p e : Int} (h : Gd b k x) (hx : x = .bad p e) : p ≤ (b.length : Int) ∧ e ≠ 0 := by subst hx; exact h

/-- What a step leaves. -/
inductive Step (b : Bs) (L : Lm) (s : S) : S → Prop where
  | on (k : Nat) (h1 : s.k < k) (h2 : k ≤ b.length) : Step b L s { s with k := k }
  | text (k : Nat) (o : Bs) (h0 : s.op ≠ []) (h1 : s.k < k) (h2 : k ≤ b.length) : Step b L s { beginS s s.k with tout := o, k := k }
  | over (k : Nat) (h0 : s.op = []) (hn : 0 < s.nodes) (h1 : s.k ≤ k) (h2 : k ≤ b.length) : Step b L s { s with k := k, over := true }
  | start (nm : Bs) (l : List At) (lt0 k : Nat) (hD : (s.op.length : Int) ≠ L.D) (hN : s.nodes ≠ L.N) (h0 : s.op = [] → ¬ 0 < s.nodes) (h1 : s.k ≤ lt0) (h2 : lt0 < k) (h3 : k ≤ b.length) :
      Step b L s (tellS { s with nodes := s.nodes + 1, k := k, op := s.op ++ [nm] } [⟨1, lt0, nm, [], l⟩])
  | empty (nm : Bs) (l : List At) (lt0 k : Nat) (sl : Int) (hD : (s.op.length : Int) ≠ L.D) (hN : s.nodes ≠ L.N) (h0 : s.op = [] → ¬ 0 < s.nodes) (h1 : s.k ≤ lt0) (h2 : lt0 < k) (h3 : k ≤ b.length) (h4 : (lt0 : Int) ≤ sl) (h5 : sl ≤ k) :
      Step b L s (tellS { s with nodes := s.nodes + 1, k := k } [⟨1, lt0, nm, [], l⟩, ⟨2, sl, nm, [], []⟩])
  | close (lt0 k : Nat) (h0 : s.op ≠ []) (h1 : s.k ≤ lt0) (h2 : lt0 < k) (h3 : k ≤ b.length) :
      Step b L s (tellS { s with k := k, op := s.op.dropLast } [⟨2, lt0, s.op.getLastD [], [], []⟩])

theorem attrs_sl {b : Bs} {A T : Int} : ∀ {n : Nat} {l l' : List At} {k k' : Nat} {sl : Int}, k ≤ b.length → attrsL n b A T l k = .ok (l', some sl) k' → (k : Int) ≤ sl ∧ sl ≤ k'
  | 0, l, l', k, k', sl, hk, h => by cases h
  | n + 1, l, l', k, k', sl, hk, h => by
    rw [attrsL] at h
    obtain ⟨g, k1, h1, h2⟩ := bind_inv h
    obtain ⟨x, k2, h3, h4⟩ := bind_inv h2
    obtain ⟨ho, hx, e⟩ := peek_inv h3
    subst e
    have hb := (blanks_gd hk).use h1
    split at h4
    · cases h4
    split at h4
    · obtain ⟨y, k3, h5, h6⟩ := bind_inv h4
      injection h6 with e1 e2
      injection e1 with e3 e4
      injection e4 with e5
      have := (sign_gd (ln_le b k2 hb.2)).use h5
      omega
    split at h4
    · cases h4
    split at h4
    · cases h4
    obtain ⟨a, k3, h5, h6⟩ := bind_inv h4
    have h7 := (attr_gd hb.2).use h5
    have := attrs_sl h7.2 h6
    omega
theorem name_gt {b : Bs} {T : Int} {k k' : Nat} {nm : Bs} (hk : k ≤ b.length) (h : nameS b T k = .ok nm k') : k ≤ k' := ((name_gd hk).use h).1

theorem tag_go {b : Bs} {L : Lm} {s s' : S} {lt0 k : Nat} (hk : k ≤ b.length) (hlt : lt0 < k) (hs : s.k ≤ lt0) (h0 : s.op = [] → ¬ 0 < s.nodes) (h : tagS b L s lt0 k = .go s') : Step b L s s' := by
  unfold tagS at h
  obtain ⟨r, k1, h1, h2⟩ := q_go h
  split at h2
  · cases h2
  split at h2
  · cases h2
  rename_i hcap
  have hD : (s.op.length : Int) ≠ L.D := fun e => hcap (.inl e)
  have hN : s.nodes ≠ L.N := fun e => hcap (.inr e)
  obtain ⟨nm, k2, h3, h4⟩ := q_go h2
  obtain ⟨⟨l, sl⟩, k3, h5, h6⟩ := q_go h4
  have g2 := (name_gd hk).use h3
  have g3 := (attrs_gd g2.2).use h5
  cases sl with
  | none => injection h6 with e; subst e; exact .start nm l lt0 k3 hD hN h0 hs (by omega) g3.2
  | some sl =>
    injection h6 with e; subst e
    have := attrs_sl g2.2 h5
    exact .empty nm l lt0 k3 sl hD hN h0 hs (by omega) g3.2 (by omega) (by omega)
theorem blanks_end {b : Bs} {k k' : Nat} {g : Bool} (hk : b.length ≤ k) (h : blanksS b k = .ok g k') : k' = k := by
  unfold blanksS at h
  have e : b.length - k = 0 := by omega
  rw [e, blkS, bind_ok] at h
  injection h with e1 e2
  exact e2.symm
theorem sign_end {b : Bs} {r : Int} {k : Nat} (hk : b.length ≤ k) : signS b r k = .bad k 2 := by
  rw [signS, if_neg]
  rintro ⟨h, _⟩
  rw [okl_end hk] at h
  cases h
theorem end_go {b : Bs} {L : Lm} {s s' : S} {lt0 k : Nat} (hk : k ≤ b.length) (hlt : lt0 < k) (hs : s.k ≤ lt0) (h0 : s.op ≠ []) (h : endS b L s lt0 k = .go s') : Step b L s s' := by
  unfold endS at h
  obtain ⟨nm, k1, h1, h2⟩ := q_go h
  have g1 := (name_gd hk).use h1
  split at h2
  · cases h2
  rename_i hc
  obtain ⟨g, k2, h3, h4⟩ := q_go h2
  obtain ⟨u, k3, h5, h6⟩ := q_go h4
  have g2 := (blanks_gd g1.2).use h3
  have g3 := (sign_gd g2.2).use h5
  cases u
  have hnm : nm = s.op.getLastD [] := by
    by_cases e : nm = s.op.getLastD []
    · exact e
    · exfalso
      apply hc
      refine ⟨e, ?_⟩
      rintro ⟨e1, _⟩
      have := blanks_end (by omega) h3
      rw [sign_end (by omega)] at h5
      cases h5
  injection h6 with e
  subst e
  rw [hnm]
  exact .close lt0 k3 h0 hs (by omega) g3.2
theorem cd_go {b : Bs} {L : Lm} {s s' : S} {k : Nat} (hs : s.k ≤ b.length) (hk : k ≤ b.length) (hlt : s.k < k) (ht : s.tat ≤ b.length) (h0 : s.op ≠ []) (h : cdS b L s s.k k = .go s') : Step b L s s' := by
  unfold cdS at h
  obtain ⟨_, k1, h1, h2⟩ := q_go h
  obtain ⟨o, k2, h3, h4⟩ := q_go h2
  have g1 := (word_gd (by omega) hk).use h1
  have ha : (beginS s s.k).tat ≤ b.length := by
    unfold beginS
    split
    · exact ht
    · show (s.k : Int) ≤ _; omega
  have g2 := (cd_gd ha g1.2).use h3
  injection h4 with e
  subst e
  exact .text k2 o h0 (by omega) g2.2
theorem put_go {b : Bs} {L : Lm} {s s' : S} {r : Int} {k : Nat} (hk : k ≤ b.length) (hlt : s.k < k) (h0 : s.op ≠ []) (h : putQ L (beginS s s.k) r k = .go s') : Step b L s s' := by
  unfold putQ at h
  obtain ⟨o, k1, h1, h2⟩ := q_go h
  obtain ⟨rfl, rfl, _⟩ := put_inv h1
  injection h2 with e
  subst e
  exact .text k1 _ h0 hlt hk
theorem take_pos {b : Bs} {k k' : Nat} {r : Int} (h : takeS b k = .ok r k') : k < k' := by
  obtain ⟨ho, _, rfl⟩ := take_inv h
  have := ln_pos ho
  omega
theorem inst_pos {b : Bs} {T : Int} {k k' : Nat} (hk : k ≤ b.length) (h : instS b T k = .ok () k') : k < k' := by
  unfold instS at h
  obtain ⟨r, k1, h1, h2⟩ := bind_inv h
  have h3 := take_pos h1
  have g1 := ((take_gd hk).use h1).2
  obtain ⟨nm, k2, h4, h5⟩ := bind_inv h2
  have g2 := (name_gd g1).use h4
  obtain ⟨x, k3, h6, h7⟩ := bind_inv h5
  split at h7
  · cases h7
  obtain ⟨gap, k4, h8, h9⟩ := bind_inv h7
  have g3 := (blanks_gd g2.2).use h8
  split at h9
  · have := (instL_gd g3.2).use h9; omega
  · have := ((sign_gd g3.2).bind fun _ k4 _ _ h4 => sign_gd h4).use h9; omega
theorem bang_go {b : Bs} {L : Lm} {s s' : S} {k : Nat} (hs : s.k ≤ b.length) (hk : k ≤ b.length) (hlt : s.k < k) (ht : s.tat ≤ b.length) (h0 : s.op ≠ []) (h : bangS b L s s.k k = .go s') : Step b L s s' := by
  unfold bangS at h
  obtain ⟨r, k1, h1, h2⟩ := q_go h
  split at h2
  · exact cd_go hs hk hlt ht h0 h2
  · obtain ⟨_, k2, h3, h4⟩ := q_go h2
    have g := (note_gd (by omega) hk).use h3
    injection h4 with e
    subst e
    exact .on k2 (by omega) g.2
theorem mark_go {b : Bs} {L : Lm} {s s' : S} {k : Nat} (hs : s.k ≤ b.length) (hk : k ≤ b.length) (hlt : s.k < k) (ht : s.tat ≤ b.length) (h0 : s.op ≠ []) (h : markS b L s s.k k = .go s') : Step b L s s' := by
  unfold markS at h
  obtain ⟨r, k1, h1, h2⟩ := q_go h
  have hle := ln_le b k hk
  split at h2
  · obtain ⟨_, k2, h3, h4⟩ := q_go h2
    have g := (inst_gd hk).use h3
    injection h4 with e
    subst e
    exact .on k2 (by omega) g.2
  split at h2
  · exact bang_go hs hle (by omega) ht h0 h2
  split at h2
  · exact end_go hle (by omega) (Nat.le_refl _) h0 h2
  · exact tag_go hk hlt (Nat.le_refl _) (fun e => absurd e h0) h2
theorem ref_pos {b : Bs} {k k' : Nat} {c : Int} (hk : k ≤ b.length) (h : refS b k = .ok c k') : k < k' := by
  unfold refS at h
  obtain ⟨r, k1, h1, h2⟩ := bind_inv h
  obtain ⟨r2, k2, h3, h4⟩ := bind_inv h2
  have p1 := take_pos h1
  have g1 := ((take_gd hk).use h1).2
  have g2 := (take_gd g1).use h3
  have ha : (k : Int) ≤ b.length := by omega
  have : Gd b k2 (
    if r2 = 35 then numberS b k k2
    else if r2 = 108 then (wordS b k [116, 59] k2).bind fun _ k' => .ok 60 k'
    else if r2 = 103 then (wordS b k [116, 59] k2).bind fun _ k' => .ok 62 k'
    else if r2 = 113 then (wordS b k [117, 111, 116, 59] k2).bind fun _ k' => .ok 34 k'
    else if r2 = 97 then ampS b k k2
    else .bad k 2) := by
    have h2 := g2.2
    split
    · exact number_gd ha h2
    split
    · exact wordv_gd ha h2
    split
    · exact wordv_gd ha h2
    split
    · exact wordv_gd ha h2
    split
    · exact amp_gd ha h2
    · exact .bad ha (by decide)
  have := this.use h4
  omega
theorem line_pos {b : Bs} {k k' : Nat} {c : Int} (h : lineS b k = .ok c k') : k < k' := by
  unfold lineS at h
  obtain ⟨r, k1, h1, h2⟩ := bind_inv h
  have := take_pos h1
  split at h2
  · split at h2
    · injection h2 with _ e; omega
    · injection h2 with _ e; omega
  · injection h2 with _ e; omega
theorem cont_go {b : Bs} {L : Lm} {s s' : S} (hs : s.k ≤ b.length) (ht : s.tat ≤ b.length) (h0 : s.op ≠ []) (h : contS b L s = .go s') : Step b L s s' := by
  unfold contS at h
  obtain ⟨r, k1, h1, h2⟩ := q_go h
  obtain ⟨ho, _, _⟩ := peek_inv h1
  have hle := ln_le b s.k hs
  have hp := ln_pos ho
  split at h2
  · exact mark_go hs hle (by omega) ht h0 h2
  split at h2
  · obtain ⟨c, k2, h3, h4⟩ := q_go h2
    exact put_go ((ref_gd hs).use h3).2 (ref_pos hs h3) h0 h4
  split at h2
  · cases h2
  · obtain ⟨c, k2, h3, h4⟩ := q_go h2
    exact put_go ((line_gd hs).use h3).2 (line_pos h3) h0 h4
theorem out_go {b : Bs} {L : Lm} {s s' : S} (hs : s.k ≤ b.length) (h0 : s.op = []) (h : outS b L s = .go s') : Step b L s s' := by
  unfold outS at h
  obtain ⟨g, k1, h1, h2⟩ := q_go h
  have g1 := (blanks_gd hs).use h1
  split at h2
  · rename_i hc
    injection h2 with e
    subst e
    exact .over k1 h0 hc.2 g1.1 g1.2
  obtain ⟨_, k2, h3, h4⟩ := q_go h2
  have g2 := (sign_gd g1.2).use h3
  have hp : k1 < k2 := by
    obtain ⟨o, _, e⟩ := sign_inv h3
    have := ln_pos o
    omega
  obtain ⟨r, k3, h5, h6⟩ := q_go h4
  have hle := ln_le b k2 g2.2
  split at h6
  · obtain ⟨_, k4, h7, h8⟩ := q_go h6
    have g := (inst_gd g2.2).use h7
    injection h8 with e
    subst e
    exact .on k4 (by omega) g.2
  split at h6
  · obtain ⟨_, k4, h7, h8⟩ := q_go h6
    have g := (note_gd (by omega) hle).use h7
    injection h8 with e
    subst e
    exact .on k4 (by omega) g.2
  split at h6
  · cases h6
  split at h6
  · cases h6
  · rename_i hn
    exact tag_go g2.2 hp g1.1 (fun _ => hn) h6
theorem step_k {b : Bs} {L : Lm} {s s' : S} {k : Nat} (hk : s.k ≤ k) (h : Step b L { s with k := k } s') (h0 : s.op = []) (hbg : s.begun = false) : Step b L s s' := by
  cases h with
  | on k2 h1 h2 => exact .on k2 (by have : k < k2 := h1; omega) h2
  | text k2 o h0' h1 h2 => exact absurd h0 h0'
  | over k2 _ hn h1 h2 => exact .over k2 h0 hn (by have : k ≤ k2 := h1; omega) h2
  | start nm l lt0 k2 hD hN h0' h1 h2 h3 => exact .start nm l lt0 k2 hD hN h0' (by have : k ≤ lt0 := h1; omega) h2 h3
  | empty nm l lt0 k2 sl hD hN h0' h1 h2 h3 h4 h5 => exact .empty nm l lt0 k2 sl hD hN h0' (by have : k ≤ lt0 := h1; omega) h2 h3 h4 h5
  | close lt0 k2 h0' h1 h2 h3 => exact absurd h0 h0'
theorem read_go {b : Bs} {L : Lm} {s s' : S} (hs : s.k ≤ b.length) (ht : s.tat ≤ b.length) (hbg : s.op = [] → s.begun = false) (h : readS b L s = .go s') : Step b L s s' := by
  unfold readS at h
  split at h
  · rename_i h0
    exact cont_go hs ht (by intro e; rw [e] at h0; simp at h0) h
  · rename_i h0
    have h0' : s.op = [] := List.eq_nil_of_length_eq_zero (by omega)
    split at h
    · rename_i hd
      have h5 : 5 ≤ b.length := by
        have := hd.2
        unfold isDecl at this
        simp at this
        omega
      obtain ⟨_, k, h1, h2⟩ := q_go h
      have g := (decl_gd h5).use h1
      have := out_go (s := { s with k := k }) g.2 h0' h2
      exact step_k (by omega) this h0' (hbg h0')
    · exact out_go hs h0' h

/-- Faults lie within the bytes. -/
def FB (b : Bs) (p e : Int) : Prop := p ≤ (b.length : Int) ∧ e ≠ 0
theorem Gd.fb {b : Bs} {k : Nat} {x : R α} {p e : Int} (h : Gd b k x) (hx : x = .bad p e) : FB b p e := h.isbad hx
theorem tag_fb {b : Bs} {L : Lm} {s : S} {lt0 k : Nat} {p e : Int} (hk : k ≤ b.length) (hlt : lt0 ≤ b.length) (h : tagS b L s lt0 k = .bad p e) : FB b p e := by
  unfold tagS at h
  rcases q_bad h with h | ⟨r, k1, h1, h⟩
  · exact (peek_gd hk).fb h
  split at h
  · injection h with e1 e2; subst e1; subst e2; exact ⟨by omega, by decide⟩
  split at h
  · injection h with e1 e2; subst e1; subst e2; exact ⟨by omega, by decide⟩
  rcases q_bad h with h | ⟨nm, k2, h2, h⟩
  · exact (name_gd hk).fb h
  have g2 := (name_gd hk).use h2
  rcases q_bad h with h | ⟨⟨l, sl⟩, k3, h5, h⟩
  · exact (attrs_gd g2.2).fb h
  cases sl <;> cases h
theorem end_fb {b : Bs} {L : Lm} {s : S} {lt0 k : Nat} {p e : Int} (hk : k ≤ b.length) (hlt : lt0 ≤ b.length) (h : endS b L s lt0 k = .bad p e) : FB b p e := by
  unfold endS at h
  rcases q_bad h with h | ⟨nm, k1, h1, h⟩
  · exact (name_gd hk).fb h
  have g1 := (name_gd hk).use h1
  split at h
  · injection h with e1 e2; subst e1; subst e2; exact ⟨by omega, by decide⟩
  rcases q_bad h with h | ⟨_, k2, h2, h⟩
  · exact (blanks_gd g1.2).fb h
  have g2 := (blanks_gd g1.2).use h2
  rcases q_bad h with h | ⟨_, k3, h3, h⟩
  · exact (sign_gd g2.2).fb h
  cases h
theorem begin_tat {b : Bs} {s : S} (hs : s.k ≤ b.length) (ht : s.tat ≤ b.length) : (beginS s s.k).tat ≤ b.length := by
  unfold beginS
  split
  · exact ht
  · show (s.k : Int) ≤ _; omega
theorem put_fb {b : Bs} {L : Lm} {s : S} {r : Int} {k : Nat} {p e : Int} (hk : k ≤ b.length) (ht : s.tat ≤ b.length) (h : putQ L s r k = .bad p e) : FB b p e := by
  unfold putQ at h
  rcases q_bad h with h | ⟨o, k1, h1, h⟩
  · exact (put_gd ht hk).fb h
  cases h
theorem cont_fb {b : Bs} {L : Lm} {s : S} {p e : Int} (hs : s.k ≤ b.length) (ht : s.tat ≤ b.length) (h : contS b L s = .bad p e) : FB b p e := by
  unfold contS at h
  rcases q_bad h with h | ⟨r, k1, h1, h⟩
  · exact (peek_gd hs).fb h
  have hle := ln_le b s.k hs
  have hbt := begin_tat hs ht
  split at h
  · unfold markS at h
    rcases q_bad h with h | ⟨r, k1, h1, h⟩
    · exact (peek_gd hle).fb h
    have hle2 := ln_le b _ hle
    split at h
    · rcases q_bad h with h | ⟨r, k1, h1, h⟩
      · exact (inst_gd hle).fb h
      · cases h
    split at h
    · unfold bangS at h
      rcases q_bad h with h | ⟨r, k1, h1, h⟩
      · exact (peek_gd hle2).fb h
      split at h
      · unfold cdS at h
        rcases q_bad h with h | ⟨r, k1, h1, h⟩
        · exact (word_gd (by omega) hle2).fb h
        have g := (word_gd (by omega) hle2).use h1
        rcases q_bad h with h | ⟨r, k1, h1, h⟩
        · exact (cd_gd hbt g.2).fb h
        · cases h
      · rcases q_bad h with h | ⟨r, k1, h1, h⟩
        · exact (note_gd (by omega) hle2).fb h
        · cases h
    split at h
    · exact end_fb hle2 hs h
    · exact tag_fb hle hs h
  split at h
  · rcases q_bad h with h | ⟨c, k1, h1, h⟩
    · exact (ref_gd hs).fb h
    · exact put_fb ((ref_gd hs).use h1).2 hbt h
  split at h
  · injection h with e1 e2; subst e1; subst e2; exact ⟨by omega, by decide⟩
  · rcases q_bad h with h | ⟨c, k1, h1, h⟩
    · exact (line_gd hs).fb h
    · exact put_fb ((line_gd hs).use h1).2 hbt h
theorem out_fb {b : Bs} {L : Lm} {s : S} {p e : Int} (hs : s.k ≤ b.length) (h : outS b L s = .bad p e) : FB b p e := by
  unfold outS at h
  rcases q_bad h with h | ⟨r, k1, h1, h⟩
  · exact (blanks_gd hs).fb h
  have g1 := (blanks_gd hs).use h1
  split at h
  · cases h
  rcases q_bad h with h | ⟨r, k2, h2, h⟩
  · exact (sign_gd g1.2).fb h
  have g2 := (sign_gd g1.2).use h2
  rcases q_bad h with h | ⟨r, k3, h3, h⟩
  · exact (peek_gd g2.2).fb h
  split at h
  · rcases q_bad h with h | ⟨r, k1, h1, h⟩
    · exact (inst_gd g2.2).fb h
    · cases h
  split at h
  · rcases q_bad h with h | ⟨r, k1, h1, h⟩
    · exact (note_gd (by omega) (ln_le b k2 g2.2)).fb h
    · cases h
  split at h
  · injection h with e1 e2; subst e1; subst e2; exact ⟨by omega, by decide⟩
  split at h
  · injection h with e1 e2; subst e1; subst e2; exact ⟨by omega, by decide⟩
  · exact tag_fb g2.2 g1.2 h
theorem read_fb {b : Bs} {L : Lm} {s : S} {p e : Int} (hs : s.k ≤ b.length) (ht : s.tat ≤ b.length) (h : readS b L s = .bad p e) : FB b p e := by
  unfold readS at h
  split at h
  · exact cont_fb hs ht h
  split at h
  · rename_i hd
    have h5 : 5 ≤ b.length := by
      have := hd.2
      unfold isDecl at this
      simp at this
      omega
    rcases q_bad h with h | ⟨r, k1, h1, h⟩
    · exact (decl_gd h5).fb h
    · exact out_fb (s := { s with k := k1 }) ((decl_gd h5).use h1).2 h
  · exact out_fb hs h
end Go.Proofs.YtjcgnbmpnaapdaaDoor.M
namespace Go.Proofs.YtjcgnbmpnaapdaaDoor.M
set_option linter.unusedVariables false

structure J (b : Bs) (s : S) : Prop where
  k : s.k ≤ b.length
  bg : s.op = [] → s.begun = false
  t0 : s.begun = false → s.tat = 0 ∧ s.tout = []
  t1 : s.begun = true → 0 ≤ s.tat ∧ s.tat ≤ s.k
  nd : s.op ≠ [] → 0 < s.nodes
  n0 : 0 ≤ s.nodes
  ov : s.over = true → s.op = [] ∧ 0 < s.nodes
theorem J.ta {b : Bs} {s : S} (h : J b s) : s.tat ≤ b.length := by
  have hk := h.k
  cases hb : s.begun
  · have := (h.t0 hb).1; omega
  · have := (h.t1 hb).2; omega
theorem J.s0 (b : Bs) : J b s0 := ⟨Nat.zero_le _, fun _ => rfl, fun _ => ⟨rfl, rfl⟩, fun h => (by cases h), fun h => absurd rfl h, by decide, fun h => by cases h⟩
theorem J.clear {b : Bs} {s : S} (h : J b s) (r : List Ev) : J b { s with ready := r } := ⟨h.k, h.bg, h.t0, h.t1, h.nd, h.n0, h.ov⟩
theorem J.step {b : Bs} {L : Lm} {s s' : S} (h : J b s) (hs : Step b L s s') (ho : s.over = false) : J b s' := by
  cases hs with
  | on k h1 h2 => exact ⟨h2, h.bg, h.t0, fun hb => (by have := h.t1 hb; refine ⟨this.1, ?_⟩; show s.tat ≤ (k : Int); omega), h.nd, h.n0, h.ov⟩
  | text k o h0 h1 h2 =>
    have hnd := h.nd h0
    have e1 : (beginS s s.k).op = s.op := by unfold beginS; split <;> rfl
    have e2 : (beginS s s.k).nodes = s.nodes := by unfold beginS; split <;> rfl
    have e3 : (beginS s s.k).begun = true := by unfold beginS; split <;> first | assumption | rfl
    have e4 : (beginS s s.k).over = s.over := by unfold beginS; split <;> rfl
    have e5 : 0 ≤ (beginS s s.k).tat ∧ (beginS s s.k).tat ≤ k := by
      unfold beginS
      split
      · rename_i hb; have := h.t1 hb; omega
      · show (0 : Int) ≤ (s.k : Int) ∧ (s.k : Int) ≤ k; omega
    refine ⟨h2, fun e => ?_, fun e => ?_, fun _ => e5, fun _ => ?_, ?_, fun e => ?_⟩
    · have : (beginS s s.k).op = [] := e
      rw [e1] at this; exact absurd this h0
    · have : (beginS s s.k).begun = false := e
      rw [e3] at this; cases this
    · show 0 < (beginS s s.k).nodes; rw [e2]; exact hnd
    · show 0 ≤ (beginS s s.k).nodes; rw [e2]; exact h.n0
    · have : (beginS s s.k).over = true := e
      rw [e4, ho] at this; cases this
  | over k h0 hn h1 h2 => exact ⟨h2, h.bg, h.t0, fun hb => (by rw [h.bg h0] at hb; cases hb), h.nd, h.n0, fun _ => ⟨h0, hn⟩⟩
  | start nm l lt0 k hD hN h0 h1 h2 h3 => exact ⟨h3, fun _ => rfl, fun _ => ⟨rfl, rfl⟩, fun e => (by cases e), fun _ => (by have := h.n0; show 0 < s.nodes + 1; omega), (by have := h.n0; show 0 ≤ s.nodes + 1; omega), fun e => (by have e : s.over = true := e; rw [ho] at e; cases e)⟩
  | empty nm l lt0 k sl hD hN h0 h1 h2 h3 h4 h5 => exact ⟨h3, fun _ => rfl, fun _ => ⟨rfl, rfl⟩, fun e => (by cases e), fun _ => (by have := h.n0; show 0 < s.nodes + 1; omega), (by have := h.n0; show 0 ≤ s.nodes + 1; omega), fun e => (by have e : s.over = true := e; rw [ho] at e; cases e)⟩
  | close lt0 k h0 h1 h2 h3 => exact ⟨h3, fun _ => rfl, fun _ => ⟨rfl, rfl⟩, fun e => (by cases e), fun _ => h.nd h0, h.n0, fun e => (by have e : s.over = true := e; rw [ho] at e; cases e)⟩

def runS : Nat → Bs → Lm → S → List Ev × Int × Int
  | 0, _, _, _ => ([], -1, 9)
  | n + 1, b, L, s => if s.over = true then ([], 0, 0) else match readS b L s with
    | .bad p e => ([], p, e)
    | .go s' => (s'.ready ++ (runS n b L { s' with ready := [] }).1, (runS n b L { s' with ready := [] }).2)
def ov1 (s : S) : Nat := if s.over = true then 0 else 1
def mu (b : Bs) (s : S) : Nat := 4 * (b.length - s.k) + s.ready.length + ov1 s
def nu (b : Bs) (s : S) : Nat := b.length - s.k + ov1 s
theorem ov1_le (s : S) : ov1 s ≤ 1 := by unfold ov1; split <;> omega
theorem tell_len (s : S) (tag : List Ev) : (tellS s tag).ready.length ≤ s.ready.length + 1 + tag.length := by
  unfold tellS
  simp only [List.length_append]
  split <;> simp
theorem step_mu {b : Bs} {L : Lm} {s s' : S} (hr : s.ready = []) (ho : s.over = false) (hs : Step b L s s') : mu b s' < mu b s ∧ nu b s' < nu b s := by
  have e0 : ov1 s = 1 := by unfold ov1; rw [if_neg (by rw [ho]; simp)]
  have l1 := ov1_le s'
  unfold mu nu
  rw [e0]
  have hr0 : s.ready.length = 0 := by rw [hr]; rfl
  cases hs with
  | on k h1 h2 => simp only at *; omega
  | text k o h0 h1 h2 =>
    have e1 : (beginS s s.k).ready = s.ready := by unfold beginS; split <;> rfl
    simp only [e1] at *; omega
  | over k h0 hn h1 h2 =>
    have : ov1 { s with k := k, over := true } = 0 := by unfold ov1; rw [if_pos rfl]
    rw [this]
    simp only at *; omega
  | start nm l lt0 k hD hN h0 h1 h2 h3 =>
    have := tell_len { s with nodes := s.nodes + 1, k := k, op := s.op ++ [nm] } [⟨1, lt0, nm, [], l⟩]
    have e : (tellS { s with nodes := s.nodes + 1, k := k, op := s.op ++ [nm] } [⟨1, lt0, nm, [], l⟩]).k = k := rfl
    rw [e]
    simp only [List.length_cons, List.length_nil] at *
    omega
  | empty nm l lt0 k sl hD hN h0 h1 h2 h3 h4 h5 =>
    have := tell_len { s with nodes := s.nodes + 1, k := k } [⟨1, lt0, nm, [], l⟩, ⟨2, sl, nm, [], []⟩]
    have e : (tellS { s with nodes := s.nodes + 1, k := k } [⟨1, lt0, nm, [], l⟩, ⟨2, sl, nm, [], []⟩]).k = k := rfl
    rw [e]
    simp only [List.length_cons, List.length_nil] at *
    omega
  | close lt0 k h0 h1 h2 h3 =>
    have := tell_len { s with k := k, op := s.op.dropLast } [⟨2, lt0, s.op.getLastD [], [], []⟩]
    have e : (tellS { s with k := k, op := s.op.dropLast } [⟨2, lt0, s.op.getLastD [], [], []⟩]).k = k := rfl
    rw [e]
    simp only [List.length_cons, List.length_nil] at *
    omega
theorem clear_self {s : S} (h : s.ready = []) : { s with ready := [] } = s := by cases s; simp at h; subst h; rfl

theorem next_pop {n : Nat} {b : Bs} {L : Lm} {s : S} {e : Ev} {es : List Ev} (h : s.ready = e :: es) : nextS (n + 1) b L s = .ev e { s with ready := es } := by rw [nextS, h]
theorem next_over {n : Nat} {b : Bs} {L : Lm} {s : S} (h : s.ready = []) (ho : s.over = true) : nextS (n + 1) b L s = .fin 0 0 := by rw [nextS, h]; simp [ho]
theorem next_bad {n : Nat} {b : Bs} {L : Lm} {s : S} {p e : Int} (h : s.ready = []) (ho : s.over = false) (hx : readS b L s = .bad p e) : nextS (n + 1) b L s = .fin p e := by rw [nextS, h]; simp [ho, hx]
theorem next_go {n : Nat} {b : Bs} {L : Lm} {s s' : S} (h : s.ready = []) (ho : s.over = false) (hx : readS b L s = .go s') : nextS (n + 1) b L s = nextS n b L s' := by rw [nextS, h]; simp [ho, hx]
theorem run_over {n : Nat} {b : Bs} {L : Lm} {s : S} (ho : s.over = true) : runS (n + 1) b L s = ([], 0, 0) := by rw [runS, if_pos ho]
theorem run_bad {n : Nat} {b : Bs} {L : Lm} {s : S} {p e : Int} (ho : s.over = false) (hx : readS b L s = .bad p e) : runS (n + 1) b L s = ([], p, e) := by rw [runS, if_neg (by rw [ho]; simp), hx]
theorem run_go {n : Nat} {b : Bs} {L : Lm} {s s' : S} (ho : s.over = false) (hx : readS b L s = .go s') : runS (n + 1) b L s = (s'.ready ++ (runS n b L { s' with ready := [] }).1, (runS n b L { s' with ready := [] }).2) := by rw [runS, if_neg (by rw [ho]; simp), hx]
theorem run_go0 {n : Nat} {b : Bs} {L : Lm} {s s' : S} (ho : s.over = false) (hx : readS b L s = .go s') (hr : s'.ready = []) : runS (n + 1) b L s = runS n b L s' := by
  rw [run_go ho hx, clear_self hr, hr]; rfl

theorem next_run {b : Bs} {L : Lm} : ∀ (n : Nat) (s : S), J b s → s.ready = [] → nu b s < n → ∀ m, nu b s < m →
    (∃ p e, nextS n b L s = .fin p e ∧ runS m b L s = ([], p, e)) ∨
    (∃ e s' m', nextS n b L s = .ev e s' ∧ J b s' ∧ mu b s' < mu b s ∧ nu b s' < m' ∧ runS m b L s = (e :: (s'.ready ++ (runS m' b L { s' with ready := [] }).1), (runS m' b L { s' with ready := [] }).2))
  | 0, s, hj, hr, hn, m, hm => by omega
  | n + 1, s, hj, hr, hn, 0, hm => by omega
  | n + 1, s, hj, hr, hn, m + 1, hm => by
    rcases Bool.eq_false_or_eq_true s.over with ho | ho
    · exact .inl ⟨0, 0, next_over hr ho, run_over ho⟩
    · cases hx : readS b L s with
      | bad p e => exact .inl ⟨p, e, next_bad hr ho hx, run_bad ho hx⟩
      | go s1 =>
        have hst := read_go hj.k hj.ta hj.bg hx
        have hj1 := hj.step hst ho
        obtain ⟨q1, q2⟩ := step_mu hr ho hst
        rw [next_go hr ho hx]
        cases hr1 : s1.ready with
        | nil =>
          rw [run_go0 ho hx hr1]
          have := next_run (L := L) n s1 hj1 hr1 (by omega) m (by omega)
          rcases this with h | ⟨e, s2, m2, a1, a2, a3, a4, a5⟩
          · exact .inl h
          · exact .inr ⟨e, s2, m2, a1, a2, by omega, a4, a5⟩
        | cons e es =>
          refine .inr ⟨e, { s1 with ready := es }, m, ?_, hj1.clear es, ?_, ?_, ?_⟩
          · obtain ⟨n, rfl⟩ : ∃ n', n = n' + 1 := ⟨n - 1, by omega⟩
            exact next_pop hr1
          · have : mu b { s1 with ready := es } < mu b s1 := by unfold mu ov1; rw [hr1]; simp
            omega
          · have : nu b { s1 with ready := es } = nu b s1 := rfl
            omega
          · rw [run_go ho hx, hr1]; rfl

theorem all_run {b : Bs} {L : Lm} : ∀ (n : Nat) (s : S) (acc : List Ev), J b s → mu b s < n → ∀ m, nu b s < m →
    allS n b L s acc = (acc ++ (s.ready ++ (runS m b L { s with ready := [] }).1), (runS m b L { s with ready := [] }).2)
  | 0, s, acc, hj, hn, m, hm => by omega
  | n + 1, s, acc, hj, hn, m, hm => by
    rw [allS]
    cases hr : s.ready with
    | cons e es =>
      rw [next_pop hr]
      have hmu : mu b { s with ready := es } < mu b s := by unfold mu ov1; rw [hr]; simp
      have := all_run (L := L) n { s with ready := es } (acc ++ [e]) (hj.clear es) (by omega) m hm
      simp only
      rw [this]
      simp
    | nil =>
      rw [clear_self hr]
      have l1 := ov1_le s
      rcases next_run (L := L) (b.length + 2) s hj hr (by unfold nu; omega) m hm with ⟨p, e, a1, a2⟩ | ⟨e, s2, m2, a1, a2, a3, a4, a5⟩
      · rw [a1, a2]; simp
      · rw [a1, a5]
        have := all_run (L := L) n s2 (acc ++ [e]) a2 (by omega) m2 a4
        simp only
        rw [this]
        simp
theorem allB_run {b : Bs} {L : Lm} (h : b.length ≤ 65536) (m : Nat) (hm : b.length + 1 < m) : allB b L = runS m b L s0 := by
  unfold allB
  rw [if_neg (by omega), all_run (4 * b.length + 3) s0 [] (J.s0 b) (by show 4 * (b.length - 0) + 0 + 1 < _; omega) m (by show b.length - 0 + 1 < _; omega)]
  rfl

/-- Events one by one: names open, roots so far, the last event's kind and place. -/
def nst (op : List Bs) (roots pk pa : Int) : List Ev → Option (List Bs × Int)
  | [] => some (op, roots)
  | e :: es => if e.place < pa then none
      else if e.kind = 1 then nst (op ++ [e.name]) (if op = [] then roots + 1 else roots) 1 e.place es
      else if e.kind = 2 then (if op = [] ∨ op.getLastD [] ≠ e.name then none else nst op.dropLast roots 2 e.place es)
      else if e.kind = 3 then (if op = [] ∨ e.text = [] ∨ pk = 3 then none else nst op roots 3 e.place es)
      else none
theorem nst_start {op : List Bs} {roots pk pa place : Int} {nm t : Bs} {l : List At} {es : List Ev} (h : pa ≤ place) : nst op roots pk pa (⟨1, place, nm, t, l⟩ :: es) = nst (op ++ [nm]) (if op = [] then roots + 1 else roots) 1 place es := by
  rw [nst, if_neg (by simp; omega), if_pos rfl]
theorem nst_end {op : List Bs} {roots pk pa place : Int} {nm t : Bs} {l : List At} {es : List Ev} (h : pa ≤ place) (h0 : op ≠ []) (h1 : op.getLastD [] = nm) : nst op roots pk pa (⟨2, place, nm, t, l⟩ :: es) = nst op.dropLast roots 2 place es := by
  rw [nst, if_neg (by simp; omega), if_neg (by simp), if_pos rfl, if_neg]
  rintro (e | e)
  · exact h0 e
  · exact e h1
theorem nst_text {op : List Bs} {roots pk pa place : Int} {nm t : Bs} {l : List At} {es : List Ev} (h : pa ≤ place) (h0 : op ≠ []) (h1 : t ≠ []) (h2 : pk ≠ 3) : nst op roots pk pa (⟨3, place, nm, t, l⟩ :: es) = nst op roots 3 place es := by
  rw [nst, if_neg (by simp; omega), if_neg (by simp), if_neg (by simp), if_pos rfl, if_neg]
  rintro (e | e | e)
  · exact h0 e
  · exact h1 e
  · exact h2 e
/-- A text ahead of a tag. -/
theorem nst_tell {b : Bs} {s : S} {roots pk pa q : Int} {es : List Ev} (hj : J b s) (h2 : pk ≠ 3) (h3 : s.begun = true → pa ≤ s.tat) (hq : pa ≤ q) (hk : (s.k : Int) ≤ q) :
    ∃ pk' pa', pa' ≤ q ∧ nst s.op roots pk pa ((if 0 < s.tout.length then [⟨3, s.tat, [], s.tout, []⟩] else []) ++ es) = nst s.op roots pk' pa' es := by
  by_cases ht : 0 < s.tout.length
  · rw [if_pos ht]
    have hb : s.begun = true := by
      cases hb : s.begun
      · rw [(hj.t0 hb).2] at ht; simp at ht
      · rfl
    have ho : s.op ≠ [] := by intro e; rw [hj.bg e] at hb; cases hb
    have htn : s.tout ≠ [] := by intro e; rw [e] at ht; simp at ht
    refine ⟨3, s.tat, ?_, ?_⟩
    · have := (hj.t1 hb).2; omega
    · show nst s.op roots pk pa (⟨3, s.tat, [], s.tout, []⟩ :: es) = _
      exact nst_text (h3 hb) ho htn h2
  · rw [if_neg ht]
    exact ⟨pk, pa, hq, rfl⟩
theorem run_nst {b : Bs} {L : Lm} : ∀ (n : Nat) (s : S) (pk pa : Int), J b s → s.ready = [] → pk ≠ 3 → pa ≤ s.k → (s.begun = true → pa ≤ s.tat) →
    ∃ op' roots', nst s.op (if 0 < s.nodes then 1 else 0) pk pa (runS n b L s).1 = some (op', roots') ∧ roots' ≤ 1 ∧ ((runS n b L s).2.2 ≠ 0 ∨ roots' = 1 ∧ op' = [])
  | 0, s, pk, pa, hj, hr, h1, h2, h3 => ⟨s.op, _, rfl, by split <;> omega, .inl (by rw [runS]; decide)⟩
  | n + 1, s, pk, pa, hj, hr, h1, h2, h3 => by
    rcases Bool.eq_false_or_eq_true s.over with ho | ho
    · rw [run_over ho]
      have := hj.ov ho
      refine ⟨s.op, _, rfl, by split <;> omega, .inr ⟨by rw [if_pos this.2], this.1⟩⟩
    · cases hx : readS b L s with
      | bad p e => rw [run_bad ho hx]; exact ⟨s.op, _, rfl, by split <;> omega, .inl (read_fb hj.k hj.ta hx).2⟩
      | go s1 =>
        rw [run_go ho hx]
        have hst := read_go hj.k hj.ta hj.bg hx
        have hj1 := (hj.step hst ho).clear []
        have hn0 := hj.n0
        show ∃ op' roots', nst s.op _ pk pa (s1.ready ++ (runS n b L { s1 with ready := [] }).1) = some (op', roots') ∧ roots' ≤ 1 ∧ ((runS n b L { s1 with ready := [] }).2.2 ≠ 0 ∨ roots' = 1 ∧ op' = [])
        have hbT : s.begun = true → s.tat ≤ s.k := fun h => (hj.t1 h).2
        clear hx
        cases hst with
        | on k q1 q2 =>
          have := run_nst (L := L) n { s with k := k, ready := [] } pk pa hj1 rfl h1 (by show pa ≤ (k : Int); omega) h3
          rw [show ({ s with k := k } : S).ready = [] from hr]
          exact this
        | text k o h0 q1 q2 =>
          have e1 : (beginS s s.k).op = s.op := by unfold beginS; split <;> rfl
          have e2 : (beginS s s.k).nodes = s.nodes := by unfold beginS; split <;> rfl
          have e3 : (beginS s s.k).ready = s.ready := by unfold beginS; split <;> rfl
          have e4 : pa ≤ (beginS s s.k).tat := by
            unfold beginS
            split
            · exact h3 ‹_›
            · exact h2
          have := run_nst (L := L) n { { beginS s s.k with tout := o, k := k } with ready := [] } pk pa hj1 rfl h1 (by show pa ≤ (k : Int); omega) (fun _ => e4)
          rw [show ({ beginS s s.k with tout := o, k := k } : S).ready = [] by show (beginS s s.k).ready = []; rw [e3, hr]]
          have e5 : ({ { beginS s s.k with tout := o, k := k } with ready := [] } : S).op = s.op := e1
          have e6 : ({ { beginS s s.k with tout := o, k := k } with ready := [] } : S).nodes = s.nodes := e2
          rw [e5, e6] at this
          exact this
        | over k h0 hn q1 q2 =>
          have := run_nst (L := L) n { s with k := k, over := true, ready := [] } pk pa hj1 rfl h1 (by show pa ≤ (k : Int); omega) h3
          rw [show ({ s with k := k, over := true } : S).ready = [] from hr]
          exact this
        | start nm l lt0 k hD hN h0 q1 q2 q3 =>
          have hrd : (tellS { s with nodes := s.nodes + 1, k := k, op := s.op ++ [nm] } [⟨1, lt0, nm, [], l⟩]).ready = (if 0 < s.tout.length then [⟨3, s.tat, [], s.tout, []⟩] else []) ++ [⟨1, lt0, nm, [], l⟩] := by
            show s.ready ++ _ ++ _ = _
            rw [hr, List.nil_append]
          rw [hrd, List.append_assoc]
          obtain ⟨pk', pa', hq, e⟩ := nst_tell (roots := if 0 < s.nodes then 1 else 0) (es := [⟨1, lt0, nm, [], l⟩] ++ (runS n b L { tellS { s with nodes := s.nodes + 1, k := k, op := s.op ++ [nm] } [⟨1, lt0, nm, [], l⟩] with ready := [] }).1) hj h1 h3 (q := lt0) (by omega) (by omega)
          rw [e, List.singleton_append, nst_start hq]
          have := run_nst (L := L) n { tellS { s with nodes := s.nodes + 1, k := k, op := s.op ++ [nm] } [⟨1, lt0, nm, [], l⟩] with ready := [] } 1 lt0 hj1 rfl (by decide) (by show (lt0 : Int) ≤ (k : Int); omega) (fun h => by cases h)
          have e1 : (if s.op = [] then (if 0 < s.nodes then (1 : Int) else 0) + 1 else (if 0 < s.nodes then 1 else 0)) = (if 0 < s.nodes + 1 then 1 else 0) := by
            rw [if_pos (show 0 < s.nodes + 1 by omega)]
            by_cases hop : s.op = []
            · rw [if_pos hop, if_neg (h0 hop)]; rfl
            · rw [if_neg hop, if_pos (hj.nd hop)]
          rw [e1]
          exact this
        | empty nm l lt0 k sl hD hN h0 q1 q2 q3 q4 q5 =>
          have hrd : (tellS { s with nodes := s.nodes + 1, k := k } [⟨1, lt0, nm, [], l⟩, ⟨2, sl, nm, [], []⟩]).ready = (if 0 < s.tout.length then [⟨3, s.tat, [], s.tout, []⟩] else []) ++ [⟨1, lt0, nm, [], l⟩, ⟨2, sl, nm, [], []⟩] := by
            show s.ready ++ _ ++ _ = _
            rw [hr, List.nil_append]
          rw [hrd, List.append_assoc]
          obtain ⟨pk', pa', hq, e⟩ := nst_tell (roots := if 0 < s.nodes then 1 else 0) (es := [⟨1, lt0, nm, [], l⟩, ⟨2, sl, nm, [], []⟩] ++ (runS n b L { tellS { s with nodes := s.nodes + 1, k := k } [⟨1, lt0, nm, [], l⟩, ⟨2, sl, nm, [], []⟩] with ready := [] }).1) hj h1 h3 (q := lt0) (by omega) (by omega)
          rw [e, List.cons_append, nst_start hq, List.singleton_append, nst_end q4 (by simp) (by simp)]
          have := run_nst (L := L) n { tellS { s with nodes := s.nodes + 1, k := k } [⟨1, lt0, nm, [], l⟩, ⟨2, sl, nm, [], []⟩] with ready := [] } 2 sl hj1 rfl (by decide) (by show sl ≤ (k : Int); omega) (fun h => by cases h)
          have e1 : (if s.op = [] then (if 0 < s.nodes then (1 : Int) else 0) + 1 else (if 0 < s.nodes then 1 else 0)) = (if 0 < s.nodes + 1 then 1 else 0) := by
            rw [if_pos (show 0 < s.nodes + 1 by omega)]
            by_cases hop : s.op = []
            · rw [if_pos hop, if_neg (h0 hop)]; rfl
            · rw [if_neg hop, if_pos (hj.nd hop)]
          rw [e1, List.dropLast_concat]
          exact this
        | close lt0 k h0 q1 q2 q3 =>
          have hrd : (tellS { s with k := k, op := s.op.dropLast } [⟨2, lt0, s.op.getLastD [], [], []⟩]).ready = (if 0 < s.tout.length then [⟨3, s.tat, [], s.tout, []⟩] else []) ++ [⟨2, lt0, s.op.getLastD [], [], []⟩] := by
            show s.ready ++ _ ++ _ = _
            rw [hr, List.nil_append]
          rw [hrd, List.append_assoc]
          obtain ⟨pk', pa', hq, e⟩ := nst_tell (roots := if 0 < s.nodes then 1 else 0) (es := [⟨2, lt0, s.op.getLastD [], [], []⟩] ++ (runS n b L { tellS { s with k := k, op := s.op.dropLast } [⟨2, lt0, s.op.getLastD [], [], []⟩] with ready := [] }).1) hj h1 h3 (q := lt0) (by omega) (by omega)
          rw [e, List.singleton_append, nst_end hq h0 rfl]
          exact run_nst n { tellS { s with k := k, op := s.op.dropLast } [⟨2, lt0, s.op.getLastD [], [], []⟩] with ready := [] } 2 lt0 hj1 rfl (by decide) (by show (lt0 : Int) ≤ (k : Int); omega) (fun h => by cases h)
theorem all_nst (b : Bs) (L : Lm) : ∃ op roots, nst [] 0 0 0 (allB b L).1 = some (op, roots) ∧ roots ≤ 1 ∧ ((allB b L).2.2 ≠ 0 ∨ roots = 1 ∧ op = []) := by
  by_cases h : b.length ≤ 65536
  · rw [allB_run h (b.length + 2) (by omega)]
    exact run_nst (b.length + 2) s0 0 0 (J.s0 b) rfl (by decide) (by decide) (fun h => by cases h)
  · unfold allB
    rw [if_pos (by omega)]
    exact ⟨[], 0, rfl, by decide, .inl (by decide)⟩
end Go.Proofs.YtjcgnbmpnaapdaaDoor.M
namespace Go.Proofs.YtjcgnbmpnaapdaaDoor.M
set_option linter.unusedVariables false
variable {α β : Type}

def LimQ (x y : Q) : Prop := x = y ∨ ∃ p, x = .bad p 3
theorem LimQ.rfl {x : Q} : LimQ x x := .inl (Eq.refl _)
theorem LimQ.bad {p : Int} {y : Q} : LimQ (.bad p 3) y := .inr ⟨p, Eq.refl _⟩
theorem Lim.q {x y : R α} {f g : α → Nat → Q} (h : Lim x y) (hf : ∀ a k, LimQ (f a k) (g a k)) : LimQ (x.q f) (y.q g) := by
  rcases h with rfl | ⟨p, rfl⟩
  · cases x with
    | ok a k => exact hf a k
    | bad p e => exact .inl (Eq.refl _)
  · exact .inr ⟨p, Eq.refl _⟩
structure LL (L' L : Lm) : Prop where
  D : L'.D ≤ L.D
  N : L'.N ≤ L.N
  A : L'.A ≤ L.A
  T : L'.T ≤ L.T
  A0 : 0 ≤ L'.A
theorem tag_lim {b : Bs} {L' L : Lm} (hL : LL L' L) {s : S} {lt0 k : Nat} (hD : (s.op.length : Int) ≤ L'.D) (hN : s.nodes ≤ L'.N) : LimQ (tagS b L' s lt0 k) (tagS b L s lt0 k) := by
  have l1 := hL.D
  have l2 := hL.N
  unfold tagS
  refine Lim.rfl.q fun r _ => ?_
  split
  · exact .rfl
  by_cases h : (s.op.length : Int) = L'.D ∨ s.nodes = L'.N
  · rw [if_pos h]; exact .bad
  · rw [if_neg h, if_neg (by omega)]
    refine (name_lim hL.T).q fun nm k1 => ?_
    exact (attrs_lim hL.T hL.A (by simpa using hL.A0)).q fun p k2 => .rfl
theorem end_lim {b : Bs} {L' L : Lm} (hL : LL L' L) {s : S} {lt0 k : Nat} : LimQ (endS b L' s lt0 k) (endS b L s lt0 k) := by
  unfold endS
  exact (name_lim hL.T).q fun nm k1 => .rfl
theorem put_limq {L' L : Lm} (hL : LL L' L) {s : S} {r : Int} {k : Nat} : LimQ (putQ L' s r k) (putQ L s r k) := by
  unfold putQ
  exact (put_lim hL.T).q fun o k' => .rfl
theorem cont_lim {b : Bs} {L' L : Lm} (hL : LL L' L) {s : S} (hD : (s.op.length : Int) ≤ L'.D) (hN : s.nodes ≤ L'.N) : LimQ (contS b L' s) (contS b L s) := by
  unfold contS
  refine Lim.rfl.q fun r _ => ?_
  split
  · unfold markS
    refine Lim.rfl.q fun r _ => ?_
    split
    · exact (inst_lim hL.T).q fun _ _ => .rfl
    split
    · unfold bangS
      refine Lim.rfl.q fun r _ => ?_
      split
      · unfold cdS
        exact Lim.rfl.q fun _ k' => (cd_lim hL.T).q fun o k2 => .rfl
      · exact .rfl
    split
    · exact end_lim hL
    · exact tag_lim hL hD hN
  split
  · exact Lim.rfl.q fun c k' => put_limq hL
  split
  · exact .rfl
  · exact Lim.rfl.q fun c k' => put_limq hL
theorem out_lim {b : Bs} {L' L : Lm} (hL : LL L' L) {s : S} (hD : (s.op.length : Int) ≤ L'.D) (hN : s.nodes ≤ L'.N) : LimQ (outS b L' s) (outS b L s) := by
  unfold outS
  refine Lim.rfl.q fun _ k1 => ?_
  split
  · exact .rfl
  refine Lim.rfl.q fun _ k2 => Lim.rfl.q fun r _ => ?_
  split
  · exact (inst_lim hL.T).q fun _ _ => .rfl
  split
  · exact .rfl
  split
  · exact .rfl
  split
  · exact .rfl
  · exact tag_lim hL hD hN
theorem read_lim {b : Bs} {L' L : Lm} (hL : LL L' L) {s : S} (hD : (s.op.length : Int) ≤ L'.D) (hN : s.nodes ≤ L'.N) : LimQ (readS b L' s) (readS b L s) := by
  unfold readS
  split
  · exact cont_lim hL hD hN
  split
  · exact Lim.rfl.q fun _ k => out_lim hL hD hN
  · exact out_lim hL hD hN
theorem step_cap {b : Bs} {L : Lm} {s s' : S} (hs : Step b L s s') (hD : (s.op.length : Int) ≤ L.D) (hN : s.nodes ≤ L.N) : (s'.op.length : Int) ≤ L.D ∧ s'.nodes ≤ L.N := by
  cases hs with
  | on k h1 h2 => exact ⟨hD, hN⟩
  | text k o h0 h1 h2 =>
    have e1 : (beginS s s.k).op = s.op := by unfold beginS; split <;> rfl
    have e2 : (beginS s s.k).nodes = s.nodes := by unfold beginS; split <;> rfl
    refine ⟨?_, ?_⟩
    · show ((beginS s s.k).op.length : Int) ≤ _; rw [e1]; exact hD
    · show (beginS s s.k).nodes ≤ _; rw [e2]; exact hN
  | over k h0 hn h1 h2 => exact ⟨hD, hN⟩
  | start nm l lt0 k q1 q2 h0 h1 h2 h3 => exact ⟨by show (((s.op ++ [nm]).length : Nat) : Int) ≤ _; simp; omega, by show s.nodes + 1 ≤ _; omega⟩
  | empty nm l lt0 k sl q1 q2 h0 h1 h2 h3 h4 h5 => exact ⟨hD, by show s.nodes + 1 ≤ _; omega⟩
  | close lt0 k h0 h1 h2 h3 => exact ⟨by show ((s.op.dropLast.length : Nat) : Int) ≤ _; simp; omega, hN⟩
theorem run_fb {b : Bs} {L : Lm} : ∀ (n : Nat) (s : S), J b s → (runS n b L s).2.1 ≤ b.length
  | 0, s, hj => by rw [runS]; show (-1 : Int) ≤ _; omega
  | n + 1, s, hj => by
    rcases Bool.eq_false_or_eq_true s.over with ho | ho
    · rw [run_over ho]; show (0 : Int) ≤ _; omega
    · cases hx : readS b L s with
      | bad p e => rw [run_bad ho hx]; exact (read_fb hj.k hj.ta hx).1
      | go s1 =>
        rw [run_go ho hx]
        exact run_fb n _ ((hj.step (read_go hj.k hj.ta hj.bg hx) ho).clear [])
theorem run_lim {b : Bs} {L' L : Lm} (hL : LL L' L) : ∀ (n : Nat) (s : S), J b s → (s.op.length : Int) ≤ L'.D → s.nodes ≤ L'.N →
    ((runS n b L' s).2.2 = 3 ∧ (runS n b L' s).1.length ≤ (runS n b L s).1.length) ∨ runS n b L' s = runS n b L s
  | 0, s, hj, hD, hN => .inr rfl
  | n + 1, s, hj, hD, hN => by
    rcases Bool.eq_false_or_eq_true s.over with ho | ho
    · rw [run_over ho, run_over ho]; exact .inr rfl
    · rcases read_lim (b := b) hL hD hN with h | ⟨p, h⟩
      · cases hx : readS b L' s with
        | bad p e => rw [run_bad ho hx, run_bad ho (h ▸ hx)]; exact .inr rfl
        | go s1 =>
          have hst := read_go hj.k hj.ta hj.bg hx
          have hcap := step_cap hst hD hN
          rw [run_go ho hx, run_go ho (h ▸ hx)]
          rcases run_lim hL n { s1 with ready := [] } ((hj.step hst ho).clear []) hcap.1 hcap.2 with ⟨a1, a2⟩ | a1
          · exact .inl ⟨a1, by simp only [List.length_append]; omega⟩
          · rw [a1]; exact .inr rfl
      · rw [run_bad ho h]; exact .inl ⟨rfl, Nat.zero_le _⟩
theorem nar_le (own most : Int) (h : 1 ≤ most) : 1 ≤ narS own most ∧ narS own most ≤ most := by
  unfold narS
  split
  · omega
  · omega
theorem all_lim (b : Bs) (d n a t : Int) (hb : b.length ≤ 65536) : ((allB b (limS d n a t)).2.2 = 3 ∧ (allB b (limS d n a t)).1.length ≤ (allB b (limS 0 0 0 0)).1.length ∧ (allB b (limS d n a t)).2.1 ≤ b.length) ∨
    ((allB b (limS d n a t)).2.2 ≠ 3 ∧ allB b (limS d n a t) = allB b (limS 0 0 0 0)) := by
  have hL : LL (limS d n a t) (limS 0 0 0 0) := ⟨(nar_le d 64 (by decide)).2, (nar_le n 4096 (by decide)).2, (nar_le a 64 (by decide)).2, (nar_le t 4096 (by decide)).2, by have := (nar_le a 64 (by decide)).1; show 0 ≤ narS a 64; omega⟩
  rw [allB_run hb (b.length + 2) (by omega), allB_run hb (b.length + 2) (by omega)]
  have hf := run_fb (L := limS d n a t) (b.length + 2) s0 (J.s0 b)
  rcases run_lim hL (b.length + 2) s0 (J.s0 b) (by have := (nar_le d 64 (by decide)).1; show (0 : Int) ≤ narS d 64; omega) (by have := (nar_le n 4096 (by decide)).1; show (0 : Int) ≤ narS n 4096; omega) with ⟨h1, h2⟩ | h
  · exact .inl ⟨h1, h2, hf⟩
  · by_cases h3 : (runS (b.length + 2) b (limS d n a t) s0).2.2 = 3
    · exact .inl ⟨h3, by rw [h]; exact Nat.le_refl _, hf⟩
    · exact .inr ⟨h3, h⟩

/- Fronts. -/
def Alt (c : Nat) (s s' : S) : Prop := s'.ready = s.ready ∧ s'.op = s.op ∧ s'.nodes = s.nodes ∧ c ≤ s'.k
theorem alt_k {c : Nat} {s : S} {k : Nat} (h : c ≤ k) : Alt c s { s with k := k } := ⟨rfl, rfl, rfl, h⟩
theorem alt_t {c : Nat} {s : S} {a : Int} {o : Bs} {k : Nat} (h : c ≤ k) : Alt c s { beginS s a with tout := o, k := k } := by
  have e1 : (beginS s a).op = s.op := by unfold beginS; split <;> rfl
  have e2 : (beginS s a).nodes = s.nodes := by unfold beginS; split <;> rfl
  have e3 : (beginS s a).ready = s.ready := by unfold beginS; split <;> rfl
  exact ⟨e3, e1, e2, h⟩
theorem tag_fe {b : Bs} {L : Lm} {s s' : S} {c lt0 k : Nat} (hc : c ≤ b.length) (hk : k ≤ (b.take c).length) (h : tagS (b.take c) L s lt0 k = .go s') : tagS b L s lt0 k = .go s' := by
  have hl : (b.take c).length = c := by simp; omega
  unfold tagS at h ⊢
  obtain ⟨r, k0, h1, h2⟩ := q_go h
  obtain ⟨ho, hr, _⟩ := peek_inv h1
  obtain ⟨o1, o2, o3⟩ := okl_take ho
  subst hr
  rw [peekS, if_pos o1, o2]
  show (if isStart (lt (b.take c) k) = false then Q.bad k 2 else _) = _
  split at h2
  · cases h2
  rename_i q1
  rw [if_neg q1]
  split at h2
  · cases h2
  rename_i q2
  rw [if_neg q2]
  obtain ⟨nm, k2, h3, h4⟩ := q_go h2
  obtain ⟨p, k3, h5, h6⟩ := q_go h4
  have g2 := ((name_gd hk).use h3).2
  rcases name_fi hc (by omega) nm k2 h3 with h7 | h7
  · rw [h7]
    show (attrsL (b.length + 1) b L.A L.T [] k2).q _ = _
    rw [attrs_fe hc (by omega) g2 h5]
    exact h6
  · exact absurd h5 (attrs_end (by omega) _ _)
theorem end_fe {b : Bs} {L : Lm} {s s' : S} {c lt0 k : Nat} (hc : c ≤ b.length) (hk : k ≤ (b.take c).length) (h : endS (b.take c) L s lt0 k = .go s') : endS b L s lt0 k = .go s' := by
  have hl : (b.take c).length = c := by simp; omega
  unfold endS at h ⊢
  obtain ⟨nm, k1, h1, h2⟩ := q_go h
  have g1 := ((name_gd hk).use h1).2
  split at h2
  · cases h2
  rename_i q1
  obtain ⟨g, k2, h3, h4⟩ := q_go h2
  have g2 := (blanks_gd g1).use h3
  obtain ⟨u, k3, h5, h6⟩ := q_go h4
  cases u
  have hlt : k2 < c := by
    have := okl_lt (sign_inv h5).1
    omega
  rcases name_fi hc (by omega) nm k1 h1 with h7 | h7
  · rw [h7]
    show (if nm ≠ s.op.getLastD [] ∧ ¬ (k1 = b.length ∧ _) then Q.bad lt0 2 else _) = _
    rw [if_neg]
    · rcases blanks_fi hc (by omega) g k2 h3 with h8 | h8
      · rw [h8]
        show (signS b 62 k2).q _ = _
        rw [sign_fe h5]
        exact h6
      · omega
    · rintro ⟨x1, x2⟩
      apply q1
      refine ⟨x1, ?_⟩
      rintro ⟨x3, _⟩
      omega
  · omega
theorem put_alt {L : Lm} {s s' : S} {a : Int} {r : Int} {c k : Nat} (h : putQ L (beginS s a) r k = .go s') (hk : c ≤ k) : Alt c s s' := by
  unfold putQ at h
  obtain ⟨o, k1, h1, h2⟩ := q_go h
  obtain ⟨rfl, rfl, _⟩ := put_inv h1
  injection h2 with e
  subst e
  exact alt_t hk
theorem cont_fi {b : Bs} {L : Lm} {s s' : S} {c : Nat} (hc : c ≤ b.length) (hs : s.k ≤ (b.take c).length) (ht : s.tat ≤ (b.take c).length) (h : contS (b.take c) L s = .go s') : contS b L s = .go s' ∨ Alt c s s' := by
  have hl : (b.take c).length = c := by simp; omega
  have hbt := begin_tat hs ht
  unfold contS at h ⊢
  obtain ⟨r, k0, h1, h2⟩ := q_go h
  obtain ⟨ho, hr, _⟩ := peek_inv h1
  obtain ⟨o1, o2, o3⟩ := okl_take ho
  have hle := ln_le (b.take c) s.k hs
  have hlt := okl_lt ho
  subst hr
  rw [peekS, if_pos o1, o2]
  show (if lt (b.take c) s.k = 60 then _ else _) = _ ∨ _
  split at h2
  · rename_i q1
    rw [if_pos q1, o3]
    unfold markS at h2 ⊢
    obtain ⟨r, k0, h1, h2⟩ := q_go h2
    obtain ⟨ho, hr, _⟩ := peek_inv h1
    obtain ⟨o1, o2, o3⟩ := okl_take ho
    have hle2 := ln_le (b.take c) _ hle
    subst hr
    rw [peekS, if_pos o1, o2]
    show (if lt (b.take c) (s.k + ln (b.take c) s.k) = 63 then _ else _) = _ ∨ _
    generalize s.k + ln (b.take c) s.k = k at *
    split at h2
    · rename_i q2
      rw [if_pos q2]
      obtain ⟨u, k1, h3, h4⟩ := q_go h2
      rcases inst_fi hc hle u k1 h3 with h5 | h5
      · rw [h5]; exact .inl h4
      · injection h4 with e; subst e; exact .inr (alt_k h5)
    rename_i q2
    rw [if_neg q2]
    split at h2
    · rename_i q3
      rw [if_pos q3, o3]
      generalize k + ln (b.take c) k = k2 at *
      unfold bangS at h2 ⊢
      obtain ⟨r, k0, h1, h2⟩ := q_go h2
      obtain ⟨ho, hr, _⟩ := peek_inv h1
      obtain ⟨o1, o2, o3⟩ := okl_take ho
      subst hr
      rw [peekS, if_pos o1, o2]
      show (if lt (b.take c) k2 = 91 then _ else _) = _ ∨ _
      split at h2
      · rename_i q4
        rw [if_pos q4]
        unfold cdS at h2 ⊢
        obtain ⟨u, k1, h3, h4⟩ := q_go h2
        obtain ⟨o, k3, h5, h6⟩ := q_go h4
        have g1 := ((word_gd (by omega) hle2).use h3).2
        have g2 := (cd_gd hbt g1).use h5
        rcases word_fi (by omega) hle2 u k1 h3 with h7 | h7
        · rw [h7]
          show (cdL (b.length + 1) b L.T _ 0 _ k1).q _ = _ ∨ _
          rcases cd_fi hc hbt (m := b.length + 1) (by omega) g1 o k3 h5 with h8 | h8
          · rw [h8]; exact .inl h6
          · injection h6 with e; subst e; exact .inr (alt_t h8)
        · injection h6 with e; subst e; exact .inr (alt_t (by omega))
      · rename_i q4
        rw [if_neg q4]
        obtain ⟨u, k1, h3, h4⟩ := q_go h2
        rcases note_fi hc (by omega) hle2 u k1 h3 with h5 | h5
        · rw [h5]; exact .inl h4
        · injection h4 with e; subst e; exact .inr (alt_k h5)
    rename_i q3
    rw [if_neg q3]
    split at h2
    · rename_i q4
      rw [if_pos q4, o3]
      exact .inl (end_fe hc hle2 h2)
    · rename_i q4
      rw [if_neg q4]
      exact .inl (tag_fe hc hle h2)
  rename_i q1
  rw [if_neg q1]
  split at h2
  · rename_i q2
    rw [if_pos q2]
    obtain ⟨x, k1, h3, h4⟩ := q_go h2
    rcases ref_fi hc hs x k1 h3 with h5 | h5
    · rw [h5]; exact .inl h4
    · exact .inr (put_alt h4 h5)
  rename_i q2
  rw [if_neg q2]
  split at h2
  · cases h2
  rename_i q3
  rw [if_neg]
  · obtain ⟨x, k1, h3, h4⟩ := q_go h2
    rcases line_fi hc x k1 h3 with h5 | h5
    · rw [h5]; exact .inl h4
    · exact .inr (put_alt h4 h5)
  · rintro ⟨x1, x2, x3, x4⟩
    apply q3
    have e : ∀ i, i < c → (b.take c).getD i 0 = b.getD i 0 := by
      intro i hi
      rw [List.getD_eq_getElem?_getD, List.getD_eq_getElem?_getD, List.getElem?_take, if_pos hi]
    exact ⟨x1, x2, by rw [e _ (by omega)]; exact x3, by rw [e _ (by omega)]; exact x4⟩
theorem out_fi {b : Bs} {L : Lm} {s s' : S} {c : Nat} (hc : c ≤ b.length) (hs : s.k ≤ (b.take c).length) (h : outS (b.take c) L s = .go s') : outS b L s = .go s' ∨ Alt c s s' := by
  have hl : (b.take c).length = c := by simp; omega
  unfold outS at h ⊢
  obtain ⟨g, k1, h1, h2⟩ := q_go h
  have g1 := (blanks_gd hs).use h1
  split at h2
  · rename_i q1
    injection h2 with e
    subst e
    exact .inr ⟨rfl, rfl, rfl, by show c ≤ k1; omega⟩
  rename_i q1
  obtain ⟨u, k2, h3, h4⟩ := q_go h2
  cases u
  have hlt := okl_lt (sign_inv h3).1
  have g2 := (sign_gd g1.2).use h3
  rcases blanks_fi hc (by omega) g k1 h1 with h5 | h5
  · rw [h5]
    show (if k1 = b.length ∧ _ then _ else _) = _ ∨ _
    rw [if_neg (by rintro ⟨e, _⟩; omega), sign_fe h3]
    show (peekS b k2).q _ = _ ∨ _
    obtain ⟨r, k0, h6, h7⟩ := q_go h4
    obtain ⟨ho, hr, _⟩ := peek_inv h6
    obtain ⟨o1, o2, o3⟩ := okl_take ho
    subst hr
    rw [peekS, if_pos o1, o2]
    show (if lt (b.take c) k2 = 63 then _ else _) = _ ∨ _
    have hle2 := ln_le (b.take c) k2 g2.2
    split at h7
    · rename_i q2
      rw [if_pos q2]
      obtain ⟨u, k3, h3, h4⟩ := q_go h7
      rcases inst_fi hc g2.2 u k3 h3 with h5 | h5
      · rw [h5]; exact .inl h4
      · injection h4 with e; subst e; exact .inr (alt_k h5)
    rename_i q2
    rw [if_neg q2]
    split at h7
    · rename_i q3
      rw [if_pos q3, o3]
      obtain ⟨u, k3, h3, h4⟩ := q_go h7
      rcases note_fi hc (by omega) hle2 u k3 h3 with h5 | h5
      · rw [h5]; exact .inl h4
      · injection h4 with e; subst e; exact .inr (alt_k h5)
    rename_i q3
    rw [if_neg q3]
    split at h7
    · cases h7
    rename_i q4
    rw [if_neg q4]
    split at h7
    · cases h7
    rename_i q5
    rw [if_neg q5]
    exact .inl (tag_fe hc g2.2 h7)
  · omega
theorem read_fi {b : Bs} {L : Lm} {s s' : S} {c : Nat} (hc : c ≤ b.length) (hd : isDecl (b.take c) = isDecl b) (hj : J (b.take c) s) (h : readS (b.take c) L s = .go s') : readS b L s = .go s' ∨ Alt c s s' := by
  unfold readS at h ⊢
  split at h
  · rename_i q1
    rw [if_pos q1]
    exact cont_fi hc hj.k hj.ta h
  · rename_i q1
    rw [if_neg q1, ← hd]
    split at h
    · rename_i q2
      rw [if_pos q2]
      have h5 : 5 ≤ (b.take c).length := by
        have := q2.2
        unfold isDecl at this
        simp at this
        simp
        omega
      obtain ⟨u, k, h1, h2⟩ := q_go h
      have g := (decl_gd h5).use h1
      rcases decl_fi hc h5 u k h1 with h3 | h3
      · rw [h3]
        rcases out_fi (s := { s with k := k }) hc g.2 h2 with h4 | h4
        · exact .inl h4
        · exact .inr h4
      · right
        have hst := out_go (s := { s with k := k }) g.2 (List.eq_nil_of_length_eq_zero (by show s.op.length = 0; omega)) h2
        have hl : (b.take c).length = c := by simp; omega
        cases hst with
        | on k2 h1 h2 => exact alt_k (by have : k < k2 := h1; omega)
        | text k2 o h0 h1 h2 => exact absurd (List.eq_nil_of_length_eq_zero (by show s.op.length = 0; omega)) h0
        | over k2 h0 hn h1 h2 => exact ⟨rfl, rfl, rfl, by have : k ≤ k2 := h1; show c ≤ k2; omega⟩
        | start nm l lt0 k2 hD hN h0 h1 h2 h3 => exfalso; have : k ≤ lt0 := h1; omega
        | empty nm l lt0 k2 sl hD hN h0 h1 h2 h3 h4 h5 => exfalso; have : k ≤ lt0 := h1; omega
        | close lt0 k2 h0 h1 h2 h3 => exact absurd (List.eq_nil_of_length_eq_zero (by show s.op.length = 0; omega)) h0
    · rename_i q2
      rw [if_neg q2]
      exact out_fi hc hj.k h
theorem run_end {b : Bs} {L : Lm} {s : S} (hj : J b s) (hk : b.length ≤ s.k) (hr : s.ready = []) (n : Nat) : (runS n b L s).1 = [] ∧ ((runS n b L s).2.2 = 0 → s.op = [] ∧ 0 < s.nodes) := by
  cases n with
  | zero => rw [runS]; exact ⟨rfl, fun h => by cases h⟩
  | succ n =>
    rcases Bool.eq_false_or_eq_true s.over with ho | ho
    · rw [run_over ho]; exact ⟨rfl, fun _ => hj.ov ho⟩
    · cases hx : readS b L s with
      | bad p e => rw [run_bad ho hx]; exact ⟨rfl, fun h => absurd h (read_fb hj.k hj.ta hx).2⟩
      | go s1 =>
        have hst := read_go hj.k hj.ta hj.bg hx
        rw [run_go ho hx]
        cases hst with
        | on k2 h1 h2 => omega
        | text k2 o h0 h1 h2 => omega
        | over k2 h0 hn h1 h2 =>
          refine ⟨?_, fun _ => ⟨h0, hn⟩⟩
          show s.ready ++ _ = []
          rw [hr]
          cases n with
          | zero => rfl
          | succ n => rw [run_over rfl]; rfl
        | start nm l lt0 k2 hD hN h0 h1 h2 h3 => omega
        | empty nm l lt0 k2 sl hD hN h0 h1 h2 h3 h4 h5 => omega
        | close lt0 k2 h0 h1 h2 h3 => omega
theorem run_dead {b : Bs} {L : Lm} : ∀ (n : Nat) (s : S), J b s → s.op = [] → 0 < s.nodes → s.ready = [] → (runS n b L s).1 = []
  | 0, s, hj, h0, hn, hr => rfl
  | n + 1, s, hj, h0, hn, hr => by
    rcases Bool.eq_false_or_eq_true s.over with ho | ho
    · rw [run_over ho]
    · cases hx : readS b L s with
      | bad p e => rw [run_bad ho hx]
      | go s1 =>
        have hst := read_go hj.k hj.ta hj.bg hx
        have hj1 := (hj.step hst ho).clear []
        rw [run_go ho hx]
        clear hx
        cases hst with
        | on k2 h1 h2 =>
          show s.ready ++ _ = []
          rw [hr, List.nil_append]
          exact run_dead n _ hj1 h0 hn rfl
        | text k2 o q0 h1 h2 => exact absurd h0 q0
        | over k2 q0 hn h1 h2 =>
          show s.ready ++ _ = []
          rw [hr, List.nil_append]
          exact run_dead n _ hj1 h0 hn rfl
        | start nm l lt0 k2 hD hN q0 h1 h2 h3 => exact absurd hn (q0 h0)
        | empty nm l lt0 k2 sl hD hN q0 h1 h2 h3 h4 h5 => exact absurd hn (q0 h0)
        | close lt0 k2 q0 h1 h2 h3 => exact absurd h0 q0
theorem J.up {b : Bs} {c : Nat} {s : S} (h : J (b.take c) s) : J b s := ⟨by have := h.k; simp at this; omega, h.bg, h.t0, h.t1, h.nd, h.n0, h.ov⟩
theorem run_front {b : Bs} {L : Lm} {c : Nat} (hc : c ≤ b.length) (hd : isDecl (b.take c) = isDecl b) : ∀ (n m : Nat) (s : S), n ≤ m → J (b.take c) s → s.ready = [] →
    ∃ rest, (runS m b L s).1 = (runS n (b.take c) L s).1 ++ rest ∧ ((runS n (b.take c) L s).2.2 = 0 → rest = [])
  | 0, m, s, hm, hj, hr => ⟨_, rfl, fun h => by rw [runS] at h; cases h⟩
  | n + 1, 0, s, hm, hj, hr => by omega
  | n + 1, m + 1, s, hm, hj, hr => by
    rcases Bool.eq_false_or_eq_true s.over with ho | ho
    · rw [run_over ho, run_over ho]; exact ⟨[], rfl, fun _ => rfl⟩
    · cases hx : readS (b.take c) L s with
      | bad p e => rw [run_bad ho hx]; exact ⟨_, rfl, fun h => absurd h (read_fb hj.k hj.ta hx).2⟩
      | go s1 =>
        have hst := read_go hj.k hj.ta hj.bg hx
        have hj1 := (hj.step hst ho).clear []
        rcases read_fi hc hd hj hx with h | ⟨a1, a2, a3, a4⟩
        · rw [run_go ho hx, run_go ho h]
          obtain ⟨rest, e1, e2⟩ := run_front (L := L) hc hd n m { s1 with ready := [] } (by omega) hj1 rfl
          exact ⟨rest, by rw [e1, List.append_assoc], e2⟩
        · have hl : (b.take c).length = c := by simp; omega
          rw [run_go ho hx]
          obtain ⟨e1, e2⟩ := run_end (L := L) hj1 (by show (b.take c).length ≤ s1.k; omega) rfl n
          rw [e1, a1, hr]
          refine ⟨_, rfl, fun h => ?_⟩
          obtain ⟨e3, e4⟩ := e2 h
          exact run_dead (m + 1) s hj.up (by rw [← a2]; exact e3) (by rw [← a3]; exact e4) hr
theorem decl_take {b : Bs} {c : Nat} (h : 6 ≤ c) (hc : c ≤ b.length) : isDecl (b.take c) = isDecl b := by
  unfold isDecl
  have e1 : (b.take c).take 5 = b.take 5 := by rw [List.take_take]; congr 1; omega
  have e2 : (b.take c).getD 5 0 = b.getD 5 0 := by rw [List.getD_eq_getElem?_getD, List.getD_eq_getElem?_getD, List.getElem?_take, if_pos (by omega)]
  rw [e1, e2]
  congr 1
  simp
  omega
theorem all_front (b : Bs) (c : Nat) (hb : b.length ≤ 65536) (hc : c ≤ b.length) : (∃ rest, (allB b (limS 0 0 0 0)).1 = (allB (b.take c) (limS 0 0 0 0)).1 ++ rest ∧ ((allB (b.take c) (limS 0 0 0 0)).2.2 = 0 → rest = [])) ∧ (allB (b.take c) (limS 0 0 0 0)).2.1 ≤ c := by
  have hl : (b.take c).length = c := by simp; omega
  by_cases hd : isDecl (b.take c) = isDecl b
  · rw [allB_run hb (b.length + 2) (by omega), allB_run (b := b.take c) (by omega) (c + 2) (by omega)]
    refine ⟨run_front hc hd (c + 2) (b.length + 2) s0 (by omega) (J.s0 _) rfl, ?_⟩
    have := run_fb (L := limS 0 0 0 0) (c + 2) s0 (J.s0 (b.take c))
    rw [hl] at this
    exact this
  · have hc5 : c < 6 := by
      rcases Nat.lt_or_ge c 6 with h | h
      · exact h
      · exact absurd (decl_take h hc) hd
    have hb1 : isDecl b = true := by
      cases h : isDecl b
      · exfalso
        apply hd
        rw [h]
        unfold isDecl
        simp
        omega
      · rfl
    unfold isDecl at hb1
    simp at hb1
    have e : b.take c = [60, 63, 120, 109, 108].take c := by
      rw [← hb1.1, List.take_take]; congr 1; omega
    rw [e]
    have key : ∀ c, c < 6 → (allB (([60, 63, 120, 109, 108] : Bs).take c) (limS 0 0 0 0)).1 = [] ∧ (allB (([60, 63, 120, 109, 108] : Bs).take c) (limS 0 0 0 0)).2.2 ≠ 0 ∧ (allB (([60, 63, 120, 109, 108] : Bs).take c) (limS 0 0 0 0)).2.1 ≤ c := by
      decide +kernel
    obtain ⟨k1, k2, k3⟩ := key c hc5
    rw [k1]
    exact ⟨⟨_, rfl, fun h => absurd h k2⟩, k3⟩
end Go.Proofs.YtjcgnbmpnaapdaaDoor.M
