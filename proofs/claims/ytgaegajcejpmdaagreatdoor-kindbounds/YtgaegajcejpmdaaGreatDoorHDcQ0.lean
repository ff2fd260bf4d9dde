/- The program's own ways, held against the second telling's: plain. -/
import Derived.Test.YtgaegajcejpmdaaGreatDoorHDcNum4
namespace Go.Proofs.YtgaegajcejpmdaaGreatDoor.Dc
set_option linter.unusedVariables false
set_option linter.unusedSimpArgs false

/-- Cut at the first point. -/
def ctS : List Int → List Int × List Int
  | [] => ([], [])
  | c :: l => if c = 46 then ([], l) else (c :: (ctS l).1, (ctS l).2)
def dgs (l : List Int) : Bool := l.all fun c => decide (48 ≤ c ∧ c ≤ 57)
theorem dgs_app (a b : List Int) : dgs (a ++ b) = (dgs a && dgs b) := by unfold dgs; exact List.all_append
theorem dgs_dg {l : List Int} (h : dgs l = true) : Dg (l.map (· - 48)) := fun d hd => by
  obtain ⟨c, hc, rfl⟩ := List.mem_map.1 hd
  have := List.all_eq_true.1 h c hc
  simp at this
  omega
theorem sc_true : ∀ (l b : List Int) (s : Nat), scS l b s true = if dgs l = true then some (b ++ l.map (· - 48), s + l.length) else none
  | [], b, s => by simp [scS, dgs]
  | c :: l, b, s => by
    rw [scS]
    by_cases h : 48 ≤ c ∧ c ≤ 57
    · rw [if_pos h, sc_true l]
      have e : dgs (c :: l) = dgs l := by simp [dgs, h]
      rw [e]
      split
      · simp; omega
      · rfl
    · rw [if_neg h, if_neg (by simp)]
      have e : dgs (c :: l) = false := by simp [dgs]; intro q1 q2; omega
      rw [e]; rfl
theorem sc_false : ∀ (l b : List Int), scS l b 0 false = if dgs ((ctS l).1 ++ (ctS l).2) = true then some (b ++ ((ctS l).1 ++ (ctS l).2).map (· - 48), (ctS l).2.length) else none
  | [], b => by simp [scS, dgs, ctS]
  | c :: l, b => by
    rw [scS, ctS]
    by_cases h : 48 ≤ c ∧ c ≤ 57
    · rw [if_pos h, if_neg (show ¬ ((false : Bool) = true) by simp), if_neg (show ¬ c = 46 by omega), sc_false l]
      have e : dgs (c :: (ctS l).1 ++ (ctS l).2) = dgs ((ctS l).1 ++ (ctS l).2) := by simp [dgs, h]
      show _ = if dgs (c :: (ctS l).1 ++ (ctS l).2) = true then _ else _
      rw [e]
      split
      · simp
      · rfl
    · rw [if_neg h]
      by_cases h2 : c = 46
      · rw [if_pos ⟨h2, rfl⟩, if_pos h2, sc_true]
        simp
      · rw [if_neg (by simp [h2]), if_neg h2]
        have e : dgs (c :: (ctS l).1 ++ (ctS l).2) = false := by simp [dgs]; intro q1 q2; omega
        show _ = if dgs (c :: (ctS l).1 ++ (ctS l).2) = true then _ else _
        rw [e]; rfl
theorem can_zero {neg : Bool} {l : List Int} {s : Nat} (h : Dg l) (hs : s ≤ l.length) : canS neg (0 :: l) s = canS neg l s := by
  have h0 : Dg (0 :: l) := fun d hd => by
    rcases List.mem_cons.1 hd with q | q
    · omega
    · exact h d q
  have hs0 : s ≤ (0 :: l).length := by simp; omega
  have k1 := canS_ok neg l s h hs
  have k2 := canS_ok neg (0 :: l) s h0 hs0
  refine nm_uniq (S := s) k2.1 k1.1 k2.2.1 k1.2.1 ?_
  rw [canS_nv _ _ _ h hs, canS_nv _ _ _ h0 hs0, dval_cons]
  simp
/-- Parse, by the program's way. -/
theorem par_cut (l : List Int) : parS l = if 4096 < l.length then .error 3 else if (ctS (sgS l).2).1 = [] ∧ (ctS (sgS l).2).2 = [] then .error 2
    else if dgs ((ctS (sgS l).2).1 ++ (ctS (sgS l).2).2) = true then .ok (canS (sgS l).1 (0 :: ((ctS (sgS l).2).1 ++ (ctS (sgS l).2).2).map (· - 48)) (ctS (sgS l).2).2.length) else .error 2 := by
  unfold parS
  by_cases h : 4096 < l.length
  · rw [if_pos h, if_pos h]
  · rw [if_neg h, if_neg h, sc_false]
    generalize ctS (sgS l).2 = r
    by_cases hd : dgs (r.1 ++ r.2) = true
    · rw [if_pos hd, if_pos hd]
      dsimp only
      rw [List.nil_append]
      by_cases he : r.1 = [] ∧ r.2 = []
      · rw [if_pos he, if_pos (by rw [he.1, he.2]; rfl)]
      · rw [if_neg he, if_neg (by simpa using he), can_zero (dgs_dg hd) (by simp)]
    · rw [if_neg hd, if_neg hd]
      dsimp only
      split <;> rfl
/-- Of what is canonical, nought is one digit. -/
theorem all_one {l : List Int} {s : Nat} (h : Cn l s) : l.all (· == 0) = (decide (l.length = 1) && (l.head? == some 0)) := by
  rw [Bool.eq_iff_iff]
  have h1 := h.len
  constructor
  · intro ha
    have hz : ∀ d ∈ l, d = 0 := fun d hd => by simpa using List.all_eq_true.1 ha d hd
    have hne : l ≠ [] := fun e => by rw [e] at h1; simp at h1
    have hh : l.head? = some 0 := by
      cases l with
      | nil => exact absurd rfl hne
      | cons d l => rw [hz d (by simp)]; rfl
    have hl : l.getLast? = some 0 := by
      obtain ⟨m, d, e, _, hg⟩ := last_mod hne
      rw [hg, hz d (by rw [e]; simp)]
    have hs : s = 0 := by
      rcases h.lt with q | q
      · exact q
      · exact absurd hl q
    have : l.length = 1 := by
      rcases h.hd with q | q
      · omega
      · exact absurd hh q
    simp [this, hh]
  · intro hb
    simp only [Bool.and_eq_true, decide_eq_true_eq, beq_iff_eq] at hb
    obtain ⟨q1, q2⟩ := hb
    cases l with
    | nil => simp at q1
    | cons d l =>
      have : l = [] := List.eq_nil_of_length_eq_zero (by simpa using q1)
      subst this
      simp at q2
      simp [q2]
theorem cT_len : ∀ (s : Nat) (l : List Int), s + 1 ≤ l.length → (cT s l).2 + 1 ≤ (cT s l).1.length
  | 0, l, h => by simpa [cT] using h
  | s + 1, l, h => by
    rw [cT]
    split
    · exact cT_len s l.dropLast (by simp; omega)
    · exact h
theorem cH_len (s : Nat) : ∀ (l : List Int), s + 1 ≤ l.length → s + 1 ≤ (cH s l).length
  | [], h => h
  | d :: l, h => by
    rw [cH]
    split
    · rename_i q
      exact cH_len s l q.2
    · exact h
/-- Made canonical, by the program's way: of a row that has more than its scale. -/
theorem can_pr (neg : Bool) {l : List Int} {s : Nat} (h : Dg l) (hs : s + 1 ≤ l.length) : canS neg l s = (neg && !(decide ((cH (cT s l).2 (cT s l).1).length = 1) && ((cH (cT s l).2 (cT s l).1).head? == some 0)), cH (cT s l).2 (cT s l).1, (cT s l).2) := by
  have k := (canS_ok neg l s h (by omega)).1.1
  have hl := cH_len _ _ (cT_len s l hs)
  have e : cP (cT s l).2 (cH (cT s l).2 (cT s l).1) = cH (cT s l).2 (cT s l).1 := by
    unfold cP
    have : (cT s l).2 + 1 - (cH (cT s l).2 (cT s l).1).length = 0 := by omega
    rw [this]; rfl
  have e2 : canS neg l s = (neg && !((cH (cT s l).2 (cT s l).1).all (· == 0)), cH (cT s l).2 (cT s l).1, (cT s l).2) := by
    unfold canS
    rw [e]
  rw [e2] at k
  rw [e2, all_one k]
/-- Rows compared, the shorter one ahead. -/
def lxS : List Int → List Int → Int
  | [], [] => 0
  | [], _ :: _ => -1
  | _ :: _, [] => 1
  | a :: as, b :: bs => if a = b then lxS as bs else if a < b then -1 else 1
theorem lex_self : ∀ l : List Int, lexS l l = 0
  | [] => rfl
  | a :: l => by rw [lexS, if_pos rfl]; exact lex_self l
theorem lex_pre (k : Nat) (x y : List Int) : lexS (List.replicate k 0 ++ x) (List.replicate k 0 ++ y) = lexS x y := by
  induction k with
  | zero => rfl
  | succ k ih => rw [List.replicate_succ, List.cons_append, List.cons_append, lexS, if_pos rfl]; exact ih
theorem lex_low : ∀ (y : List Int) (m : Nat), Dg y → m = y.length → (∃ d ∈ y, d ≠ 0) → lexS (List.replicate m 0) y = -1
  | [], m, _, _, h => by obtain ⟨d, hd, _⟩ := h; simp at hd
  | b :: y, m, hg, hm, h => by
    obtain ⟨hb, hy⟩ := hg.cons
    subst hm
    rw [List.length_cons, List.replicate_succ, lexS]
    by_cases e : (0 : Int) = b
    · rw [if_pos e]
      refine lex_low y _ hy rfl ?_
      obtain ⟨d, hd, hn⟩ := h
      rcases List.mem_cons.1 hd with q | q
      · omega
      · exact ⟨d, q, hn⟩
    · rw [if_neg e, if_pos (by omega)]
theorem lex_high : ∀ (y : List Int) (m : Nat), Dg y → m = y.length → (∃ d ∈ y, d ≠ 0) → lexS y (List.replicate m 0) = 1
  | [], m, _, _, h => by obtain ⟨d, hd, _⟩ := h; simp at hd
  | b :: y, m, hg, hm, h => by
    obtain ⟨hb, hy⟩ := hg.cons
    subst hm
    rw [List.length_cons, List.replicate_succ, lexS]
    by_cases e : b = (0 : Int)
    · rw [if_pos e]
      refine lex_high y _ hy rfl ?_
      obtain ⟨d, hd, hn⟩ := h
      rcases List.mem_cons.1 hd with q | q
      · omega
      · exact ⟨d, q, hn⟩
    · rw [if_neg e, if_neg (by omega)]
theorem last_nz {b : Int} {bs : List Int} (h : (b :: bs).getLast? ≠ some 0) : ∃ d ∈ (b :: bs), d ≠ 0 := by
  obtain ⟨m, d, e, _, hg⟩ := last_mod (l := b :: bs) (by simp)
  refine ⟨d, by rw [e]; simp, fun q => h (by rw [hg, q])⟩
theorem lex_lx : ∀ (a b : List Int) (m n : Nat), Dg a → Dg b → a.length + m = b.length + n → (a.length < b.length → b.getLast? ≠ some 0) → (b.length < a.length → a.getLast? ≠ some 0) → lexS (a ++ List.replicate m 0) (b ++ List.replicate n 0) = lxS a b
  | [], [], m, n, _, _, h, _, _ => by
    have : m = n := by simpa using h
    rw [this]
    exact lex_self _
  | [], b :: bs, m, n, _, hb, h, hl, _ => by
    obtain ⟨d, hd, hn⟩ := last_nz (hl (by simp))
    rw [List.nil_append, lxS]
    refine lex_low _ _ (hb.app (Dg.rep n)) (by simp at h; simp; omega) ⟨d, List.mem_append_left _ hd, hn⟩
  | a :: as, [], m, n, ha, _, h, _, hl => by
    obtain ⟨d, hd, hn⟩ := last_nz (hl (by simp))
    rw [List.nil_append, lxS]
    refine lex_high _ _ (ha.app (Dg.rep m)) (by simp at h; simp; omega) ⟨d, List.mem_append_left _ hd, hn⟩
  | a :: as, b :: bs, m, n, ha, hb, h, h1, h2 => by
    obtain ⟨_, ha'⟩ := ha.cons
    obtain ⟨_, hb'⟩ := hb.cons
    rw [List.cons_append, List.cons_append, lexS, lxS]
    have key : ∀ (x : Int) (xs ys : List Int), (ys.length + 1 < xs.length + 1 → (x :: xs).getLast? ≠ some 0) → ys.length < xs.length → xs.getLast? ≠ some 0 := by
      intro x xs ys q hlt
      have := q (by omega)
      cases xs with
      | nil => simp at hlt
      | cons z zs => rwa [List.getLast?_cons_cons] at this
    rw [lex_lx as bs m n ha' hb' (by simp at h; omega) (key b bs as (by simpa using h1)) (key a as bs (by simpa using h2))]
/-- How far from nought: places ahead first, then the digits. -/
def fcS (a b : Nm) : Int := if a.2.1.length - a.2.2 < b.2.1.length - b.2.2 then -1 else if b.2.1.length - b.2.2 < a.2.1.length - a.2.2 then 1 else lxS a.2.1 b.2.1
theorem ahead_big {a b : Nm} (ha : CN a) (hb : CN b) (h : a.2.1.length - a.2.2 < b.2.1.length - b.2.2) : dval a.2.1 * p10 (hiS a b - a.2.2) < dval b.2.1 * p10 (hiS a b - b.2.2) := by
  have l1 := ha.1.len
  have l2 := hb.1.len
  have q1 := dval_lt (s := a.2.2) (S := hiS a b) ha.1.dg (by unfold hiS; omega) (x := b.2.1.length - b.2.2 - 1) (by omega) (by omega)
  have hh : b.2.1.head? ≠ some 0 := by
    rcases hb.1.hd with q | q
    · omega
    · exact q
  have q2 := head_big hb.1.dg (fun e => by rw [e] at l2; simp at l2) hh
  have q3 : p10 (b.2.1.length - 1) * p10 (hiS a b - b.2.2) ≤ dval b.2.1 * p10 (hiS a b - b.2.2) := Int.mul_le_mul_of_nonneg_right q2 (by have := p10_pos (hiS a b - b.2.2); omega)
  rw [← p10_add] at q3
  have e : b.2.1.length - 1 + (hiS a b - b.2.2) = b.2.1.length - b.2.2 - 1 + hiS a b := by
    have : b.2.2 ≤ hiS a b := by unfold hiS; omega
    omega
  rw [e] at q3
  omega
theorem hiS_comm (a b : Nm) : hiS a b = hiS b a := by unfold hiS; omega
theorem fc_sz {a b : Nm} (ha : CN a) (hb : CN b) : fcS a b = szS a b := by
  obtain ⟨e1, e2, e3, e4, e5, e6⟩ := ex_ok ha hb
  have l1 := ha.1.len
  have l2 := hb.1.len
  have hv := lex_val (a := exA a b) (b := exB a b) (by rw [e1, e2]) e3 e4
  rw [e5, e6] at hv
  unfold fcS
  split
  · rename_i h
    have := ahead_big ha hb h
    rcases hv with ⟨q, r⟩ | ⟨q, r⟩ | ⟨q, r⟩
    · exact q.symm
    · rw [← e5, ← e6, r] at this; omega
    · omega
  · split
    · rename_i h
      have := ahead_big hb ha h
      rw [hiS_comm b a] at this
      rcases hv with ⟨q, r⟩ | ⟨q, r⟩ | ⟨q, r⟩
      · omega
      · rw [← e5, ← e6, r] at this; omega
      · exact q.symm
    · rename_i h1 h2
      have hk : b.2.1.length - b.2.2 = a.2.1.length - a.2.2 := by omega
      unfold szS exA exB ext
      rw [hk, lex_pre]
      have s1 : a.2.2 ≤ hiS a b := by unfold hiS; omega
      have s2 : b.2.2 ≤ hiS a b := by unfold hiS; omega
      refine (lex_lx _ _ _ _ ha.1.dg hb.1.dg (by omega) (fun q => ?_) (fun q => ?_)).symm
      · rcases hb.1.lt with r | r
        · omega
        · exact r
      · rcases ha.1.lt with r | r
        · omega
        · exact r
end Go.Proofs.YtgaegajcejpmdaaGreatDoor.Dc
