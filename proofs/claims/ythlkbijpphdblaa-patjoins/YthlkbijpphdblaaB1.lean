/- What the members of a class are: plain. -/
import Derived.Test.YthlkbijpphdblaaA9
namespace Go.Proofs.Ythlkbijpphdblaa
open Go.RowKit
set_option linter.unusedVariables false

theorem cat_ne (n : List UInt8) (h : (catS n).2 = true) : (catS n).1 ≠ [] ∧ notR 0 (catS n).1 ≠ [] ∧ (catS n).1.length ≤ 10 ∧ (notR 0 (catS n).1).length ≤ 11 := by
  unfold catS at *
  repeat' split
  all_goals first | decide +kernel | skip
  all_goals simp_all
theorem esc_ne (c : Int) (h : (escS c).2 = true) : (escS c).1 ≠ [] ∧ (escS c).1.length ≤ 12 := by
  unfold escS at *
  repeat' split
  all_goals first | decide +kernel | skip
  all_goals simp_all
theorem nm_ge {l : Bs} : ∀ (f k k2 : Nat) (u : Unit), nmS l f k = .ok u k2 → k ≤ k2
  | 0, k, k2, u, h => by cases h
  | f + 1, k, k2, u, h => by
    have h' : ((letS l k).bind fun p _ => if p.1 = 125 then .ok () k else nmS l f (k + p.2)) = .ok u k2 := h
    cases hr : letS l k with
    | bad p e => rw [hr] at h'; cases h'
    | ok p k1 =>
      rw [hr, R.bind_ok] at h'
      split at h'
      · injection h' with _ h2; omega
      · have := nm_ge f _ _ _ h'; omega
theorem sgn_k {l : Bs} {c : Int} {k k1 : Nat} {u : Unit} (h : sgnS l c k = .ok u k1) : k1 = k + 1 ∧ k < l.length := by
  unfold sgnS at h
  cases hr : pkS l k with
  | bad p e => rw [hr] at h; cases h
  | ok r k' =>
    have := pk_lt hr
    rw [hr, R.bind_ok] at h
    split at h
    · injection h with _ h2; exact ⟨h2.symm, this⟩
    · cases h
structure SetOk (s : List Rg) (k k1 : Nat) : Prop where
  cn : Cn s
  ne : s ≠ []
  len : s.length ≤ 6 * (k1 - k)
  lt : k < k1
theorem ctg_set {l : Bs} {bg : Int} {k k' : Nat} {s : List Rg} (h : ctgS l bg k = .ok s k') : Cn s ∧ s ≠ [] ∧ notR 0 s ≠ [] ∧ s.length ≤ 10 ∧ (notR 0 s).length ≤ 11 ∧ k + 2 ≤ k' := by
  unfold ctgS at h
  cases h1 : sgnS l 123 k with
  | bad p e => rw [h1] at h; cases h
  | ok u k1 =>
    rw [h1, R.bind_ok] at h
    cases h2 : nmS l (l.length + 1) k1 with
    | bad p e => rw [h2] at h; cases h
    | ok u k2 =>
      rw [h2, R.bind_ok] at h
      have hk1 := (sgn_k h1).1
      have hk2 := nm_ge _ _ _ _ h2
      split at h
      · rename_i hc
        injection h with h3 h4
        subst h3
        obtain ⟨a, b, c, d⟩ := cat_ne _ hc
        exact ⟨(cat_ok _).1, a, b, c, d, by omega⟩
      · cases h
theorem one_ok {c : Int} {k k1 : Nat} (h0 : 0 ≤ c) (h1 : c ≤ 1114111) (hk : k < k1) : SetOk [(c, c)] k k1 := ⟨Cn.one ⟨h0, Int.le_refl _, h1⟩, by simp, by simp; omega, hk⟩
theorem ep_ok {l : Bs} {k k1 : Nat} {s : List Rg} (h : epS l k = .ok s k1) : SetOk s k k1 := by
  unfold epS at h
  by_cases hn : ln l (k + 1) = 0
  · rw [let_bad hn] at h; cases h
  rw [let_ok hn, R.bind_ok] at h
  dsimp only at h
  generalize lt l (k + 1) = r at h
  generalize hnn : ln l (k + 1) = n at *
  by_cases e46 : r = 46
  · rw [if_pos e46] at h
    injection h with h1 h2
    subst h1
    exact one_ok (by omega) (by omega) (by omega)
  rw [if_neg e46] at h
  by_cases e92 : r = 92
  · rw [if_pos e92] at h
    injection h with h1 h2
    subst h1
    exact one_ok (by omega) (by omega) (by omega)
  rw [if_neg e92] at h
  by_cases e63 : r = 63
  · rw [if_pos e63] at h
    injection h with h1 h2
    subst h1
    exact one_ok (by omega) (by omega) (by omega)
  rw [if_neg e63] at h
  by_cases e42 : r = 42
  · rw [if_pos e42] at h
    injection h with h1 h2
    subst h1
    exact one_ok (by omega) (by omega) (by omega)
  rw [if_neg e42] at h
  by_cases e43 : r = 43
  · rw [if_pos e43] at h
    injection h with h1 h2
    subst h1
    exact one_ok (by omega) (by omega) (by omega)
  rw [if_neg e43] at h
  by_cases e40 : r = 40
  · rw [if_pos e40] at h
    injection h with h1 h2
    subst h1
    exact one_ok (by omega) (by omega) (by omega)
  rw [if_neg e40] at h
  by_cases e41 : r = 41
  · rw [if_pos e41] at h
    injection h with h1 h2
    subst h1
    exact one_ok (by omega) (by omega) (by omega)
  rw [if_neg e41] at h
  by_cases e124 : r = 124
  · rw [if_pos e124] at h
    injection h with h1 h2
    subst h1
    exact one_ok (by omega) (by omega) (by omega)
  rw [if_neg e124] at h
  by_cases e91 : r = 91
  · rw [if_pos e91] at h
    injection h with h1 h2
    subst h1
    exact one_ok (by omega) (by omega) (by omega)
  rw [if_neg e91] at h
  by_cases e93 : r = 93
  · rw [if_pos e93] at h
    injection h with h1 h2
    subst h1
    exact one_ok (by omega) (by omega) (by omega)
  rw [if_neg e93] at h
  by_cases e123 : r = 123
  · rw [if_pos e123] at h
    injection h with h1 h2
    subst h1
    exact one_ok (by omega) (by omega) (by omega)
  rw [if_neg e123] at h
  by_cases e125 : r = 125
  · rw [if_pos e125] at h
    injection h with h1 h2
    subst h1
    exact one_ok (by omega) (by omega) (by omega)
  rw [if_neg e125] at h
  by_cases e45 : r = 45
  · rw [if_pos e45] at h
    injection h with h1 h2
    subst h1
    exact one_ok (by omega) (by omega) (by omega)
  rw [if_neg e45] at h
  by_cases e94 : r = 94
  · rw [if_pos e94] at h
    injection h with h1 h2
    subst h1
    exact one_ok (by omega) (by omega) (by omega)
  rw [if_neg e94] at h
  by_cases e110 : r = 110
  · rw [if_pos e110] at h
    injection h with h1 h2
    subst h1
    exact one_ok (by omega) (by omega) (by omega)
  rw [if_neg e110] at h
  by_cases e114 : r = 114
  · rw [if_pos e114] at h
    injection h with h1 h2
    subst h1
    exact one_ok (by omega) (by omega) (by omega)
  rw [if_neg e114] at h
  by_cases e116 : r = 116
  · rw [if_pos e116] at h
    injection h with h1 h2
    subst h1
    exact one_ok (by omega) (by omega) (by omega)
  rw [if_neg e116] at h
  by_cases e112 : r = 112
  · rw [if_pos e112] at h
    obtain ⟨a, b, c, d, e, f⟩ := ctg_set h
    exact ⟨a, b, by omega, by omega⟩
  rw [if_neg e112] at h
  by_cases e80 : r = 80
  · rw [if_pos e80] at h
    cases hr : ctgS l (k : Int) (k + 1 + n) with
    | bad p e => rw [hr] at h; cases h
    | ok s' k' =>
      rw [hr, R.bind_ok] at h
      injection h with h1 h2
      subst h1
      obtain ⟨a, b, c, d, e, f⟩ := ctg_set hr
      exact ⟨(notR_S a).cn, c, by omega, by omega⟩
  rw [if_neg e80] at h
  split at h
  · rename_i hc
    injection h with h1 h2
    subst h1
    obtain ⟨a, b⟩ := esc_ne _ hc.1
    exact ⟨(esc_ok _).1, a, by omega, by omega⟩
  · cases h
theorem sg_ok {l : Bs} {k k1 : Nat} {f : Bool} {s : List Rg} (hb : ∀ i, 0 ≤ l.getD i 0 ∧ l.getD i 0 < 256) (h : sgS l f k = .ok s k1) : SetOk s k k1 := by
  unfold sgS at h
  by_cases hn : ln l k = 0
  · rw [let_bad hn] at h; cases h
  have hrg := lt_rg hb hn
  rw [let_ok hn, R.bind_ok] at h
  dsimp only at h
  generalize lt l k = r at *
  generalize ln l k = n at *
  split at h
  · exact ep_ok h
  split at h
  · cases h
  split at h
  · cases h
  split at h
  · cases hr : ldS l k with
    | bad p e => rw [hr] at h; cases h
    | ok b k' =>
      rw [hr, R.bind_ok] at h
      split at h
      · injection h with h1 h2
        subst h1
        exact one_ok (by omega) (by omega) (by omega)
      · cases h
  · injection h with h1 h2
    subst h1
    exact one_ok hrg.1 hrg.2 (by omega)
theorem sz_pos : ∀ (l : List Rg), Cn l → (l.length : Int) ≤ sz l
  | [], _ => by decide
  | r :: l, h => by
    have := sz_pos l h.tail
    have := h.head.2
    rw [sz_cons, List.length_cons]
    omega
theorem sz_one {s : List Rg} (h : Cn s) (hn : s ≠ []) (hz : ¬ 1 < sz s) : ∃ x, s = [(x, x)] ∧ 0 ≤ x ∧ x ≤ 1114111 := by
  match s, hn with
  | r :: t, _ =>
    have h1 := sz_pos t h.tail
    have h2 := h.head.2
    rw [sz_cons] at hz
    have hM : MX = 1114111 := rfl
    have ht : t = [] := List.eq_nil_of_length_eq_zero (by omega)
    subst ht
    have hz0 : sz [] = 0 := rfl
    obtain ⟨r0, r1⟩ := r
    dsimp only at *
    have he : r0 = r1 := by omega
    subst he
    exact ⟨r0, rfl, by omega, by omega⟩
def hd (s : List Rg) : Int := (s.headD (0, 0)).1
/-- A letter, an escape or a range of a class. -/
def mbS (l : Bs) (first : Bool) (k : Nat) : R (List Rg) := (pkS l k).bind fun r _ => (sgS l first k).bind fun s k1 =>
  if r = 45 then .ok s k1 else if 1 < sz s then .ok s k1 else (dbS l k1).bind fun b _ =>
    if b = true then (sgS l false (k1 + 1)).bind fun t k2 => if 1 < sz t then .bad ((k1 + 1 : Nat) : Int) 2 else if hd t < hd s then .bad k 2 else .ok [(hd s, hd t)] k2
    else .ok s k1
theorem mb_ok {l : Bs} {k k1 : Nat} {f : Bool} {s : List Rg} (hb : ∀ i, 0 ≤ l.getD i 0 ∧ l.getD i 0 < 256) (h : mbS l f k = .ok s k1) : SetOk s k k1 := by
  unfold mbS at h
  cases h1 : pkS l k with
  | bad p e => rw [h1] at h; cases h
  | ok r k' =>
    rw [h1, R.bind_ok] at h
    cases h2 : sgS l f k with
    | bad p e => rw [h2] at h; cases h
    | ok s' k2 =>
      have o2 := sg_ok hb h2
      rw [h2, R.bind_ok] at h
      split at h
      · injection h with a b; subst a; subst b; exact o2
      split at h
      · injection h with a b; subst a; subst b; exact o2
      rename_i hz
      cases h3 : dbS l k2 with
      | bad p e => rw [h3] at h; cases h
      | ok b k3 =>
        rw [h3, R.bind_ok] at h
        split at h
        · cases h4 : sgS l false (k2 + 1) with
          | bad p e => rw [h4] at h; cases h
          | ok t k4 =>
            have o4 := sg_ok hb h4
            rw [h4, R.bind_ok] at h
            split at h
            · cases h
            rename_i hz2
            split at h
            · cases h
            rename_i hlt
            injection h with a b
            subst a
            subst b
            obtain ⟨x, rfl, x0, x1⟩ := sz_one o2.cn o2.ne hz
            obtain ⟨y, rfl, y0, y1⟩ := sz_one o4.cn o4.ne hz2
            have hlt' : ¬ y < x := hlt
            have q2 := o2.lt
            have q4 := o4.lt
            refine ⟨Cn.one ⟨?_, ?_, ?_⟩, by simp, by simp; omega, by omega⟩
            · exact x0
            · show x ≤ y; omega
            · exact y1
        · injection h with a b; subst a; subst b; exact o2
end Go.Proofs.Ythlkbijpphdblaa
