/- Joined: HDcNum4, HDcQ0, HDcF0, HDcG0. -/
import Derived.Test.YtgaegajcejpmdaaGreatDoorHJ6
import Derived.Lib.ItoaNum
namespace Go.Proofs.YtgaegajcejpmdaaGreatDoor.Dc
set_option linter.unusedVariables false
set_option linter.unusedSimpArgs false

/-- Orders by worth, at whatever scale. -/
theorem cmp_at {a b : Nm} (ha : CN a) (hb : CN b) {S : Nat} (h1 : a.2.2 ≤ S) (h2 : b.2.2 ≤ S) : (cmpS a b = -1 ∧ nv a S < nv b S) ∨ (cmpS a b = 0 ∧ nv a S = nv b S) ∨ (cmpS a b = 1 ∧ nv b S < nv a S) := by
  have hS : hiS a b ≤ S := by unfold hiS; omega
  have e1 := nv_up a (S := hiS a b) (T := S) (by unfold hiS; omega) hS
  have e2 := nv_up b (S := hiS a b) (T := S) (by unfold hiS; omega) hS
  have hp := p10_pos (S - hiS a b)
  rw [e1, e2]
  rcases cmp_ok ha hb with ⟨q1, q2⟩ | ⟨q1, q2⟩ | ⟨q1, q2⟩
  · exact .inl ⟨q1, Int.mul_lt_mul_of_pos_right q2 hp⟩
  · exact .inr (.inl ⟨q1, by rw [q2]⟩)
  · exact .inr (.inr ⟨q1, Int.mul_lt_mul_of_pos_right q2 hp⟩)
/-- Sums by worth, at whatever scale. -/
theorem sm_at {a b : Nm} (ha : CN a) (hb : CN b) {S : Nat} (h1 : a.2.2 ≤ S) (h2 : b.2.2 ≤ S) : CN (smS a b) ∧ (smS a b).2.2 ≤ S ∧ nv (smS a b) S = nv a S + nv b S := by
  have hS : hiS a b ≤ S := by unfold hiS; omega
  obtain ⟨q1, q2, q3, _⟩ := sm_ok ha hb
  refine ⟨q1, by omega, ?_⟩
  rw [nv_up (smS a b) q2 hS, nv_up a (S := hiS a b) (T := S) (by unfold hiS; omega) hS, nv_up b (S := hiS a b) (T := S) (by unfold hiS; omega) hS, q3, Int.add_mul]
theorem sm_comm {a b : Nm} (ha : CN a) (hb : CN b) : smS a b = smS b a := by
  obtain ⟨q1, q2, q3⟩ := sm_at ha hb (S := hiS a b) (by unfold hiS; omega) (by unfold hiS; omega)
  obtain ⟨r1, r2, r3⟩ := sm_at hb ha (S := hiS a b) (by unfold hiS; omega) (by unfold hiS; omega)
  exact nm_uniq q1 r1 q2 r2 (by omega)
theorem cmp_anti {a b : Nm} (ha : CN a) (hb : CN b) : cmpS b a = -(cmpS a b) := by
  have h1 := cmp_at ha hb (S := hiS a b) (by unfold hiS; omega) (by unfold hiS; omega)
  have h2 := cmp_at hb ha (S := hiS a b) (by unfold hiS; omega) (by unfold hiS; omega)
  omega
theorem cmp_zero {a b : Nm} (ha : CN a) (hb : CN b) : cmpS a b = 0 ↔ a = b := by
  have h1 := cmp_at ha hb (S := hiS a b) (by unfold hiS; omega) (by unfold hiS; omega)
  constructor
  · intro h
    exact nm_uniq (S := hiS a b) ha hb (by unfold hiS; omega) (by unfold hiS; omega) (by omega)
  · rintro rfl
    omega
theorem cmp_tri {a b : Nm} (ha : CN a) (hb : CN b) : cmpS a b = -1 ∨ cmpS a b = 0 ∨ cmpS a b = 1 := by
  rcases cmp_ok ha hb with q | q | q
  · exact .inl q.1
  · exact .inr (.inl q.1)
  · exact .inr (.inr q.1)
/-- The opposite. -/
def ngS (n : Nm) : Nm := (!n.1 && !(n.2.1.all (· == 0)), n.2.1, n.2.2)
theorem ng_ok {n : Nm} (h : CN n) : CN (ngS n) ∧ ∀ S, nv (ngS n) S = -(nv n S) := by
  have hz := all_zero h.1.dg
  obtain ⟨neg, l, s⟩ := n
  dsimp only at *
  unfold ngS
  dsimp only
  cases ha : l.all (· == 0) with
  | true =>
    have h0 := hz.1 ha
    refine ⟨⟨h.1, fun q => by simp at q⟩, fun S => ?_⟩
    unfold nv
    dsimp only
    rw [h0]; simp
  | false =>
    have h0 : dval l ≠ 0 := fun q => by rw [hz.2 q] at ha; simp at ha
    refine ⟨⟨h.1, fun _ => h0⟩, fun S => ?_⟩
    unfold nv
    dsimp only
    cases neg <;> simp
theorem ng_ng {n : Nm} (h : CN n) : ngS (ngS n) = n := by
  obtain ⟨q1, q2⟩ := ng_ok h
  obtain ⟨r1, r2⟩ := ng_ok q1
  exact nm_uniq (S := n.2.2) r1 h (Nat.le_refl _) (Nat.le_refl _) (by rw [r2, q2]; omega)
/-- A sum less one of its parts. -/
theorem sm_less {a b : Nm} (ha : CN a) (hb : CN b) : smS (smS a b) (ngS b) = a := by
  obtain ⟨n1, n2⟩ := ng_ok hb
  obtain ⟨q1, q2, q3⟩ := sm_at ha hb (S := hiS a b) (by unfold hiS; omega) (by unfold hiS; omega)
  have hb2 : (ngS b).2.2 ≤ hiS a b := by show b.2.2 ≤ _; unfold hiS; omega
  obtain ⟨r1, r2, r3⟩ := sm_at q1 n1 q2 hb2
  refine nm_uniq r1 ha r2 (by unfold hiS; omega) ?_
  rw [r3, q3, n2]
  omega
def zN : Nm := (false, [0], 0)
theorem z_cn : CN zN := ⟨⟨fun d hd => by simp [zN] at hd; omega, by simp [zN], .inl rfl, .inl rfl⟩, fun q => by simp [zN] at q⟩
theorem z_nv (S : Nat) : nv zN S = 0 := by
  unfold nv zN
  simp [dval]
theorem sm_opp {a : Nm} (ha : CN a) : smS a (ngS a) = zN := by
  obtain ⟨n1, n2⟩ := ng_ok ha
  obtain ⟨q1, q2, q3⟩ := sm_at ha n1 (S := a.2.2) (Nat.le_refl _) (Nat.le_refl _)
  refine nm_uniq q1 z_cn q2 (Nat.zero_le _) ?_
  rw [q3, n2, z_nv]
  omega
/-- What is added on both sides turns no order. -/
theorem cmp_add {a b c : Nm} (ha : CN a) (hb : CN b) (hc : CN c) : cmpS (smS a c) (smS b c) = cmpS a b := by
  have hS : ∃ S, a.2.2 ≤ S ∧ b.2.2 ≤ S ∧ c.2.2 ≤ S := ⟨a.2.2 + b.2.2 + c.2.2, by omega, by omega, by omega⟩
  obtain ⟨S, h1, h2, h3⟩ := hS
  obtain ⟨q1, q2, q3⟩ := sm_at ha hc h1 h3
  obtain ⟨r1, r2, r3⟩ := sm_at hb hc h2 h3
  have e1 := cmp_at q1 r1 q2 r2
  have e2 := cmp_at ha hb h1 h2
  omega
theorem cmp_neg {a b : Nm} (ha : CN a) (hb : CN b) : cmpS (ngS a) (ngS b) = cmpS b a := by
  obtain ⟨a1, a2⟩ := ng_ok ha
  obtain ⟨b1, b2⟩ := ng_ok hb
  have e1 := cmp_at a1 b1 (S := hiS a b) (by show a.2.2 ≤ _; unfold hiS; omega) (by show b.2.2 ≤ _; unfold hiS; omega)
  have e2 := cmp_at hb ha (S := hiS a b) (by unfold hiS; omega) (by unfold hiS; omega)
  rw [a2, b2] at e1
  omega
theorem cmp_trans {a b c : Nm} (ha : CN a) (hb : CN b) (hc : CN c) (h1 : cmpS a b ≤ 0) (h2 : cmpS b c ≤ 0) : cmpS a c ≤ 0 := by
  have hS : ∃ S, a.2.2 ≤ S ∧ b.2.2 ≤ S ∧ c.2.2 ≤ S := ⟨a.2.2 + b.2.2 + c.2.2, by omega, by omega, by omega⟩
  obtain ⟨S, k1, k2, k3⟩ := hS
  have e1 := cmp_at ha hb k1 k2
  have e2 := cmp_at hb hc k2 k3
  have e3 := cmp_at ha hc k1 k3
  omega
/-- A whole number's digits, by rounds. -/
def itS : Nat → Nat → List Int → List Int
  | 0, _, b => b
  | f + 1, u, b => if u > 0 ∨ b = [] then itS f (u / 10) ((u % 10 : Nat) :: b) else b
theorem it_ok : ∀ (f u : Nat) (b : List Int), u < 10 ^ f → Dg b → Dg (itS f u b) ∧ dval (itS f u b) = (u : Int) * p10 b.length + dval b ∧ b.length ≤ (itS f u b).length
  | 0, u, b, hu, hb => by
    have : u = 0 := by simpa using hu
    subst this
    simp [itS, hb]
  | f + 1, u, b, hu, hb => by
    rw [itS]
    by_cases h : u > 0 ∨ b = []
    · rw [if_pos h]
      have hd : Dg ((u % 10 : Nat) :: b : List Int) := by
        intro d hd
        rcases List.mem_cons.1 hd with e | e
        · omega
        · exact hb d e
      obtain ⟨q1, q2, q3⟩ := it_ok f (u / 10) _ (by rw [Nat.pow_succ] at hu; omega) hd
      refine ⟨q1, ?_, by rw [List.length_cons] at q3; omega⟩
      rw [q2, dval_cons, List.length_cons, p10_succ]
      have e : (u : Int) = ((u / 10 : Nat) : Int) * 10 + ((u % 10 : Nat) : Int) := by omega
      rw [Int.mul_comm (p10 b.length) 10, ← Int.mul_assoc, ← Int.add_assoc, ← Int.add_mul, ← e]
    · rw [if_neg h]
      have : u = 0 := by omega
      subst this
      simp [hb]
/-- Int. -/
def inS (n : Int) : Nm := canS (decide (n < 0)) (itS 20 n.natAbs []) 0
theorem in_ok (n : Int) (h : n.natAbs < 10 ^ 20) : CN (inS n) ∧ (inS n).2.2 = 0 ∧ nv (inS n) 0 = n := by
  obtain ⟨q1, q2, q3⟩ := it_ok 20 n.natAbs [] h (fun d hd => by simp at hd)
  obtain ⟨c1, c2, c3, c4, c5⟩ := canS_ok (decide (n < 0)) (itS 20 n.natAbs []) 0 q1 (Nat.zero_le _)
  have hv := canS_nv (decide (n < 0)) (itS 20 n.natAbs []) 0 q1 (Nat.zero_le _)
  have hq : dval (itS 20 n.natAbs []) = (n.natAbs : Int) := by
    rw [q2]
    simp [p10, dval]
  refine ⟨c1, by unfold inS; omega, ?_⟩
  unfold inS
  rw [hv, hq]
  by_cases hn : n < 0
  · rw [if_pos (by simp [hn])]; omega
  · rw [if_neg (by simp [hn])]; omega
theorem in_cmp {n m : Int} (hn : n.natAbs < 10 ^ 20) (hm : m.natAbs < 10 ^ 20) : (cmpS (inS n) (inS m) < 0 ↔ n < m) ∧ (cmpS (inS n) (inS m) = 0 ↔ n = m) := by
  obtain ⟨a1, a2, a3⟩ := in_ok n hn
  obtain ⟨b1, b2, b3⟩ := in_ok m hm
  have e := cmp_at a1 b1 (S := 0) (by omega) (by omega)
  rw [a3, b3] at e
  omega
theorem in_sum {n m : Int} (hn : n.natAbs < 10 ^ 19) (hm : m.natAbs < 10 ^ 19) : cmpS (smS (inS n) (inS m)) (inS (n + m)) = 0 := by
  obtain ⟨a1, a2, a3⟩ := in_ok n (by omega)
  obtain ⟨b1, b2, b3⟩ := in_ok m (by omega)
  obtain ⟨c1, c2, c3⟩ := in_ok (n + m) (by omega)
  obtain ⟨q1, q2, q3⟩ := sm_at a1 b1 (S := 0) (by omega) (by omega)
  have e := cmp_at q1 c1 (S := 0) q2 (by omega)
  rw [q3, a3, b3, c3] at e
  omega
end Go.Proofs.YtgaegajcejpmdaaGreatDoor.Dc
namespace Go.Proofs.YtgaegajcejpmdaaGreatDoor.Dc
set_option linter.unusedVariables false
set_option linter.unusedSimpArgs false

/-- Cut at the first point. -/
def ctS : List Int → List Int × List Int
  | [] => ([], [])
  | c :: l => if c = 46 then ([], l) else (c :: (ctS l).1, (ctS l).2)
def dgs (l : List Int) : Bool := l.all fun c => decide (48 ≤ c ∧ c ≤ 57)
theorem dgs_app (a b : List Int) : dgs (a ++ b) = (dgs a && dgs b) := by unfold dgs; exact List.all_append
theorem dgs_dg {l : List Int} (h : dgs l = true) : Dg (l.map (· - 48)) := fun d hd => by
  obtain ⟨c, hc, rfl⟩ := List.mem_map.1 hd
  have := List.all_eq_true.1 h c hc
  simp at this
  omega
theorem sc_true : ∀ (l b : List Int) (s : Nat), scS l b s true = if dgs l = true then some (b ++ l.map (· - 48), s + l.length) else none
  | [], b, s => by simp [scS, dgs]
  | c :: l, b, s => by
    rw [scS]
    by_cases h : 48 ≤ c ∧ c ≤ 57
    · rw [if_pos h, sc_true l]
      have e : dgs (c :: l) = dgs l := by simp [dgs, h]
      rw [e]
      split
      · simp; omega
      · rfl
    · rw [if_neg h, if_neg (by simp)]
      have e : dgs (c :: l) = false := by simp [dgs]; intro q1 q2; omega
      rw [e]; rfl
theorem sc_false : ∀ (l b : List Int), scS l b 0 false = if dgs ((ctS l).1 ++ (ctS l).2) = true then some (b ++ ((ctS l).1 ++ (ctS l).2).map (· - 48), (ctS l).2.length) else none
  | [], b => by simp [scS, dgs, ctS]
  | c :: l, b => by
    rw [scS, ctS]
    by_cases h : 48 ≤ c ∧ c ≤ 57
    · rw [if_pos h, if_neg (show ¬ ((false : Bool) = true) by simp), if_neg (show ¬ c = 46 by omega), sc_false l]
      have e : dgs (c :: (ctS l).1 ++ (ctS l).2) = dgs ((ctS l).1 ++ (ctS l).2) := by simp [dgs, h]
      show _ = if dgs (c :: (ctS l).1 ++ (ctS l).2) = true then _ else _
      rw [e]
      split
      · simp
      · rfl
    · rw [if_neg h]
      by_cases h2 : c = 46
      · rw [if_pos ⟨h2, rfl⟩, if_pos h2, sc_true]
        simp
      · rw [if_neg (by simp [h2]), if_neg h2]
        have e : dgs (c :: (ctS l).1 ++ (ctS l).2) = false := by simp [dgs]; intro q1 q2; omega
        show _ = if dgs (c :: (ctS l).1 ++ (ctS l).2) = true then _ else _
        rw [e]; rfl
theorem can_zero {neg : Bool} {l : List Int} {s : Nat} (h : Dg l) (hs : s ≤ l.length) : canS neg (0 :: l) s = canS neg l s := by
  have h0 : Dg (0 :: l) := fun d hd => by
    rcases List.mem_cons.1 hd with q | q
    · omega
    · exact h d q
  have hs0 : s ≤ (0 :: l).length := by simp; omega
  have k1 := canS_ok neg l s h hs
  have k2 := canS_ok neg (0 :: l) s h0 hs0
  refine nm_uniq (S := s) k2.1 k1.1 k2.2.1 k1.2.1 ?_
  rw [canS_nv _ _ _ h hs, canS_nv _ _ _ h0 hs0, dval_cons]
  simp
/-- Parse, by the program's way. -/
theorem par_cut (l : List Int) : parS l = if 4096 < l.length then .error 3 else if (ctS (sgS l).2).1 = [] ∧ (ctS (sgS l).2).2 = [] then .error 2
    else if dgs ((ctS (sgS l).2).1 ++ (ctS (sgS l).2).2) = true then .ok (canS (sgS l).1 (0 :: ((ctS (sgS l).2).1 ++ (ctS (sgS l).2).2).map (· - 48)) (ctS (sgS l).2).2.length) else .error 2 := by
  unfold parS
  by_cases h : 4096 < l.length
  · rw [if_pos h, if_pos h]
  · rw [if_neg h, if_neg h, sc_false]
    generalize ctS (sgS l).2 = r
    by_cases hd : dgs (r.1 ++ r.2) = true
    · rw [if_pos hd, if_pos hd]
      dsimp only
      rw [List.nil_append]
      by_cases he : r.1 = [] ∧ r.2 = []
      · rw [if_pos he, if_pos (by rw [he.1, he.2]; rfl)]
      · rw [if_neg he, if_neg (by simpa using he), can_zero (dgs_dg hd) (by simp)]
    · rw [if_neg hd, if_neg hd]
      dsimp only
      split <;> rfl
/-- Of what is canonical, nought is one digit. -/
theorem all_one {l : List Int} {s : Nat} (h : Cn l s) : l.all (· == 0) = (decide (l.length = 1) && (l.head? == some 0)) := by
  rw [Bool.eq_iff_iff]
  have h1 := h.len
  constructor
  · intro ha
    have hz : ∀ d ∈ l, d = 0 := fun d hd => by simpa using List.all_eq_true.1 ha d hd
    have hne : l ≠ [] := fun e => by rw [e] at h1; simp at h1
    have hh : l.head? = some 0 := by
      cases l with
      | nil => exact absurd rfl hne
      | cons d l => rw [hz d (by simp)]; rfl
    have hl : l.getLast? = some 0 := by
      obtain ⟨m, d, e, _, hg⟩ := last_mod hne
      rw [hg, hz d (by rw [e]; simp)]
    have hs : s = 0 := by
      rcases h.lt with q | q
      · exact q
      · exact absurd hl q
    have : l.length = 1 := by
      rcases h.hd with q | q
      · omega
      · exact absurd hh q
    simp [this, hh]
  · intro hb
    simp only [Bool.and_eq_true, decide_eq_true_eq, beq_iff_eq] at hb
    obtain ⟨q1, q2⟩ := hb
    cases l with
    | nil => simp at q1
    | cons d l =>
      have : l = [] := List.eq_nil_of_length_eq_zero (by simpa using q1)
      subst this
      simp at q2
      simp [q2]
theorem cT_len : ∀ (s : Nat) (l : List Int), s + 1 ≤ l.length → (cT s l).2 + 1 ≤ (cT s l).1.length
  | 0, l, h => by simpa [cT] using h
  | s + 1, l, h => by
    rw [cT]
    split
    · exact cT_len s l.dropLast (by simp; omega)
    · exact h
theorem cH_len (s : Nat) : ∀ (l : List Int), s + 1 ≤ l.length → s + 1 ≤ (cH s l).length
  | [], h => h
  | d :: l, h => by
    rw [cH]
    split
    · rename_i q
      exact cH_len s l q.2
    · exact h
/-- Made canonical, by the program's way: of a row that has more than its scale. -/
theorem can_pr (neg : Bool) {l : List Int} {s : Nat} (h : Dg l) (hs : s + 1 ≤ l.length) : canS neg l s = (neg && !(decide ((cH (cT s l).2 (cT s l).1).length = 1) && ((cH (cT s l).2 (cT s l).1).head? == some 0)), cH (cT s l).2 (cT s l).1, (cT s l).2) := by
  have k := (canS_ok neg l s h (by omega)).1.1
  have hl := cH_len _ _ (cT_len s l hs)
  have e : cP (cT s l).2 (cH (cT s l).2 (cT s l).1) = cH (cT s l).2 (cT s l).1 := by
    unfold cP
    have : (cT s l).2 + 1 - (cH (cT s l).2 (cT s l).1).length = 0 := by omega
    rw [this]; rfl
  have e2 : canS neg l s = (neg && !((cH (cT s l).2 (cT s l).1).all (· == 0)), cH (cT s l).2 (cT s l).1, (cT s l).2) := by
    unfold canS
    rw [e]
  rw [e2] at k
  rw [e2, all_one k]
/-- Rows compared, the shorter one ahead. -/
def lxS : List Int → List Int → Int
  | [], [] => 0
  | [], _ :: _ => -1
  | _ :: _, [] => 1
  | a :: aas, b :: bs => if a = b then lxS aas bs else if a < b then -1 else 1
theorem lex_self : ∀ l : List Int, lexS l l = 0
  | [] => rfl
  | a :: l => by rw [lexS, if_pos rfl]; exact lex_self l
theorem lex_pre (k : Nat) (x y : List Int) : lexS (List.replicate k 0 ++ x) (List.replicate k 0 ++ y) = lexS x y := by
  induction k with
  | zero => rfl
  | succ k ih => rw [List.replicate_succ, List.cons_append, List.cons_append, lexS, if_pos rfl]; exact ih
theorem lex_low : ∀ (y : List Int) (m : Nat), Dg y → m = y.length → (∃ d ∈ y, d ≠ 0) → lexS (List.replicate m 0) y = -1
  | [], m, _, _, h => by obtain ⟨d, hd, _⟩ := h; simp at hd
  | b :: y, m, hg, hm, h => by
    obtain ⟨hb, hy⟩ := hg.cons
    subst hm
    rw [List.length_cons, List.replicate_succ, lexS]
    by_cases e : (0 : Int) = b
    · rw [if_pos e]
      refine lex_low y _ hy rfl ?_
      obtain ⟨d, hd, hn⟩ := h
      rcases List.mem_cons.1 hd with q | q
      · omega
      · exact ⟨d, q, hn⟩
    · rw [if_neg e, if_pos (by omega)]
theorem lex_high : ∀ (y : List Int) (m : Nat), Dg y → m = y.length → (∃ d ∈ y, d ≠ 0) → lexS y (List.replicate m 0) = 1
  | [], m, _, _, h => by obtain ⟨d, hd, _⟩ := h; simp at hd
  | b :: y, m, hg, hm, h => by
    obtain ⟨hb, hy⟩ := hg.cons
    subst hm
    rw [List.length_cons, List.replicate_succ, lexS]
    by_cases e : b = (0 : Int)
    · rw [if_pos e]
      refine lex_high y _ hy rfl ?_
      obtain ⟨d, hd, hn⟩ := h
      rcases List.mem_cons.1 hd with q | q
      · omega
      · exact ⟨d, q, hn⟩
    · rw [if_neg e, if_neg (by omega)]
theorem last_nz {b : Int} {bs : List Int} (h : (b :: bs).getLast? ≠ some 0) : ∃ d ∈ (b :: bs), d ≠ 0 := by
  obtain ⟨m, d, e, _, hg⟩ := last_mod (l := b :: bs) (by simp)
  refine ⟨d, by rw [e]; simp, fun q => h (by rw [hg, q])⟩
theorem lex_lx : ∀ (a b : List Int) (m n : Nat), Dg a → Dg b → a.length + m = b.length + n → (a.length < b.length → b.getLast? ≠ some 0) → (b.length < a.length → a.getLast? ≠ some 0) → lexS (a ++ List.replicate m 0) (b ++ List.replicate n 0) = lxS a b
  | [], [], m, n, _, _, h, _, _ => by
    have : m = n := by simpa using h
    rw [this]
    exact lex_self _
  | [], b :: bs, m, n, _, hb, h, hl, _ => by
    obtain ⟨d, hd, hn⟩ := last_nz (hl (by simp))
    rw [List.nil_append, lxS]
    refine lex_low _ _ (hb.app (Dg.rep n)) (by simp at h; simp; omega) ⟨d, List.mem_append_left _ hd, hn⟩
  | a :: aas, [], m, n, ha, _, h, _, hl => by
    obtain ⟨d, hd, hn⟩ := last_nz (hl (by simp))
    rw [List.nil_append, lxS]
    refine lex_high _ _ (ha.app (Dg.rep m)) (by simp at h; simp; omega) ⟨d, List.mem_append_left _ hd, hn⟩
  | a :: aas, b :: bs, m, n, ha, hb, h, h1, h2 => by
    obtain ⟨_, ha'⟩ := ha.cons
    obtain ⟨_, hb'⟩ := hb.cons
    rw [List.cons_append, List.cons_append, lexS, lxS]
    have key : ∀ (x : Int) (xs ys : List Int), (ys.length + 1 < xs.length + 1 → (x :: xs).getLast? ≠ some 0) → ys.length < xs.length → xs.getLast? ≠ some 0 := by
      intro x xs ys q hlt
      have := q (by omega)
      cases xs with
      | nil => simp at hlt
      | cons z zs => rwa [List.getLast?_cons_cons] at this
    rw [lex_lx aas bs m n ha' hb' (by simp at h; omega) (key b bs aas (by simpa using h1)) (key a aas bs (by simpa using h2))]
/-- How far from nought: places ahead first, then the digits. -/
def fcS (a b : Nm) : Int := if a.2.1.length - a.2.2 < b.2.1.length - b.2.2 then -1 else if b.2.1.length - b.2.2 < a.2.1.length - a.2.2 then 1 else lxS a.2.1 b.2.1
theorem ahead_big {a b : Nm} (ha : CN a) (hb : CN b) (h : a.2.1.length - a.2.2 < b.2.1.length - b.2.2) : dval a.2.1 * p10 (hiS a b - a.2.2) < dval b.2.1 * p10 (hiS a b - b.2.2) := by
  have l1 := ha.1.len
  have l2 := hb.1.len
  have q1 := dval_lt (s := a.2.2) (S := hiS a b) ha.1.dg (by unfold hiS; omega) (x := b.2.1.length - b.2.2 - 1) (by omega) (by omega)
  have hh : b.2.1.head? ≠ some 0 := by
    rcases hb.1.hd with q | q
    · omega
    · exact q
  have q2 := head_big hb.1.dg (fun e => by rw [e] at l2; simp at l2) hh
  have q3 : p10 (b.2.1.length - 1) * p10 (hiS a b - b.2.2) ≤ dval b.2.1 * p10 (hiS a b - b.2.2) := Int.mul_le_mul_of_nonneg_right q2 (by have := p10_pos (hiS a b - b.2.2); omega)
  rw [← p10_add] at q3
  have e : b.2.1.length - 1 + (hiS a b - b.2.2) = b.2.1.length - b.2.2 - 1 + hiS a b := by
    have : b.2.2 ≤ hiS a b := by unfold hiS; omega
    omega
  rw [e] at q3
  omega
theorem hiS_comm (a b : Nm) : hiS a b = hiS b a := by unfold hiS; omega
theorem fc_sz {a b : Nm} (ha : CN a) (hb : CN b) : fcS a b = szS a b := by
  obtain ⟨e1, e2, e3, e4, e5, e6⟩ := ex_ok ha hb
  have l1 := ha.1.len
  have l2 := hb.1.len
  have hv := lex_val (a := exA a b) (b := exB a b) (by rw [e1, e2]) e3 e4
  rw [e5, e6] at hv
  unfold fcS
  split
  · rename_i h
    have := ahead_big ha hb h
    rcases hv with ⟨q, r⟩ | ⟨q, r⟩ | ⟨q, r⟩
    · exact q.symm
    · rw [← e5, ← e6, r] at this; omega
    · omega
  · split
    · rename_i h
      have := ahead_big hb ha h
      rw [hiS_comm b a] at this
      rcases hv with ⟨q, r⟩ | ⟨q, r⟩ | ⟨q, r⟩
      · omega
      · rw [← e5, ← e6, r] at this; omega
      · exact q.symm
    · rename_i h1 h2
      have hk : b.2.1.length - b.2.2 = a.2.1.length - a.2.2 := by omega
      unfold szS exA exB ext
      rw [hk, lex_pre]
      have s1 : a.2.2 ≤ hiS a b := by unfold hiS; omega
      have s2 : b.2.2 ≤ hiS a b := by unfold hiS; omega
      refine (lex_lx _ _ _ _ ha.1.dg hb.1.dg (by omega) (fun q => ?_) (fun q => ?_)).symm
      · rcases hb.1.lt with r | r
        · omega
        · exact r
      · rcases ha.1.lt with r | r
        · omega
        · exact r
end Go.Proofs.YtgaegajcejpmdaaGreatDoor.Dc
namespace Go.Proofs.YtgaegajcejpmdaaGreatDoor.Dc
set_option linter.unusedVariables false
set_option linter.unusedSimpArgs false

theorem ct_pt : ∀ {x : List Int} (y : List Int), dgs x = true → ctS (x ++ 46 :: y) = (x, y)
  | [], y, _ => by simp [ctS]
  | c :: x, y, h => by
    have h1 : (48 ≤ c ∧ c ≤ 57) ∧ dgs x = true := by
      unfold dgs at h ⊢
      simpa using h
    rw [List.cons_append, ctS, if_neg (by omega), ct_pt y h1.2]
theorem ct_np : ∀ {x : List Int}, dgs x = true → ctS x = (x, [])
  | [], _ => rfl
  | c :: x, h => by
    have h1 : (48 ≤ c ∧ c ≤ 57) ∧ dgs x = true := by
      unfold dgs at h ⊢
      simpa using h
    rw [ctS, if_neg (by omega), ct_np h1.2]
theorem sg_sign {g : Int} {l : List Int} (hg : g = 43 ∨ g = 45) : sgS (g :: l) = (decide (g = 45), l) := by
  rw [sgS]
  rcases hg with rfl | rfl
  · simp
  · simp
theorem form1 {g : Int} {A B : List Int} (hg : g = 43 ∨ g = 45) (hA : dgs A = true) (hB : dgs B = true) (hn : A ≠ []) (hl : A.length + B.length + 2 ≤ 4096) : parS (g :: (A ++ 46 :: B)) = .ok (canS (decide (g = 45)) (0 :: (A ++ B).map (· - 48)) B.length) := by
  rw [par_cut, sg_sign hg]
  dsimp only
  rw [ct_pt B hA, if_neg (by simp; omega)]
  dsimp only
  rw [if_neg (fun q => hn q.1), if_pos (by rw [dgs_app, hA, hB]; rfl)]
theorem form2 {g : Int} {A : List Int} (hg : g = 43 ∨ g = 45) (hA : dgs A = true) (hn : A ≠ []) (hl : A.length + 1 ≤ 4096) : parS (g :: A) = .ok (canS (decide (g = 45)) (0 :: A.map (· - 48)) 0) := by
  rw [par_cut, sg_sign hg]
  dsimp only
  rw [ct_np hA, if_neg (by simp; omega)]
  dsimp only
  rw [if_neg (fun q => hn q.1), if_pos (by rw [List.append_nil]; exact hA)]
  simp
theorem Dg.zero {l : List Int} (h : Dg l) : Dg (0 :: l) := fun d hd => by
  rcases List.mem_cons.1 hd with q | q
  · omega
  · exact h d q
theorem dval_zero' (l : List Int) : dval (0 :: l) = dval l := by rw [dval_cons]; simp
/-- Noughts on both sides. -/
theorem can_about (neg : Bool) {D : List Int} {s : Nat} (k : Nat) (h : Dg D) (hs : s ≤ D.length) : canS neg (0 :: (List.replicate k 0 ++ (D ++ List.replicate k 0))) (s + k) = canS neg (0 :: D) s := by
  have d1 := h.zero
  have d2 : Dg (0 :: (List.replicate k 0 ++ (D ++ List.replicate k 0))) := ((Dg.rep k).app (h.app (Dg.rep k))).zero
  have l1 : s ≤ (0 :: D).length := by simp; omega
  have l2 : s + k ≤ (0 :: (List.replicate k (0 : Int) ++ (D ++ List.replicate k 0))).length := by simp; omega
  have k1 := canS_ok neg _ s d1 l1
  have k2 := canS_ok neg _ (s + k) d2 l2
  refine nm_uniq (S := s + k) k2.1 k1.1 k2.2.1 (by have := k1.2.1; omega) ?_
  rw [nv_up _ k1.2.1 (Nat.le_add_right s k), canS_nv _ _ _ d1 l1, canS_nv _ _ _ d2 l2]
  have e : s + k - s = k := by omega
  rw [e, dval_zero', dval_zero', dval_append, dval_append, dval_rep, List.length_replicate]
  simp only [Int.zero_mul, Int.zero_add, Int.add_zero]
  split
  · rw [Int.neg_mul]
  · rfl
/-- The three texts. -/
theorem forms3 {g : Int} {A B : List Int} {k : Nat} (hg : g = 43 ∨ g = 45) (hA : dgs A = true) (hB : dgs B = true) (l1 : A.length ≤ 60) (l2 : B.length ≤ 60) (l3 : k ≤ 60) :
    ∃ n m : Nm, parS (g :: (48 :: A ++ 46 :: B)) = .ok n ∧ parS (g :: (List.replicate k 48 ++ 48 :: A ++ 46 :: (B ++ List.replicate k 48))) = .ok n ∧ parS (g :: (48 :: A ++ B)) = .ok m ∧ (B = [] → m = n) ∧ n.2.2 ≤ B.length ∧ n.2.1.length ≤ 600 ∧ m.2.1.length ≤ 600 := by
  have hA' : dgs (48 :: A) = true := by unfold dgs at hA ⊢; simpa using hA
  have hZ : dgs (List.replicate k 48) = true := by
    unfold dgs
    rw [List.all_eq_true]
    intro c hc
    have := (List.mem_replicate.1 hc).2
    subst this
    decide
  have hD : Dg ((48 :: A ++ B).map (· - 48)) := dgs_dg (by rw [dgs_app, hA', hB]; rfl)
  refine ⟨_, _, form1 hg hA' hB (by simp) (by simp; omega), ?_, form2 hg (A := 48 :: A ++ B) (by rw [dgs_app, hA', hB]; rfl) (by simp) (by simp; omega), ?_, ?_, ?_, ?_⟩
  · have e := form1 (g := g) (A := List.replicate k 48 ++ 48 :: A) (B := B ++ List.replicate k 48) hg (by rw [dgs_app, hZ, hA']; rfl) (by rw [dgs_app, hB, hZ]; rfl) (by simp) (by simp; omega)
    rw [e]
    congr 1
    have e1 : ((List.replicate k (48 : Int) ++ 48 :: A) ++ (B ++ List.replicate k 48)).map (· - 48) = List.replicate k 0 ++ ((48 :: A ++ B).map (· - 48) ++ List.replicate k 0) := by
      simp
    have e2 : (B ++ List.replicate k (48 : Int)).length = B.length + k := by simp
    rw [e1, e2]
    exact can_about _ k hD (by simp; omega)
  · rintro rfl
    simp
  · exact (canS_ok _ _ _ hD.zero (by simp; omega)).2.1
  · have := (canS_ok (decide (g = 45)) _ B.length hD.zero (by simp; omega)).2.2.2.2
    simp at this
    simp
    omega
  · have := (canS_ok (decide (g = 45)) _ 0 hD.zero (by simp)).2.2.2.2
    simp at this
    simp
    omega
end Go.Proofs.YtgaegajcejpmdaaGreatDoor.Dc
namespace Go.Proofs.YtgaegajcejpmdaaGreatDoor.Dc
set_option linter.unusedVariables false
set_option linter.unusedSimpArgs false

/-- The digits of a number as bytes, as numbers. -/
def ddS (u : Nat) : List Int := (Lib.decDigits u).map fun c => (c.toNat : Int)
theorem dd_small {u : Nat} (h : u < 10) : ddS u = [48 + (u : Int)] := by
  unfold ddS
  rw [Lib.decDigits, dif_pos h]
  simp
  omega
theorem dd_big {u : Nat} (h : ¬ u < 10) : ddS u = ddS (u / 10) ++ [48 + ((u % 10 : Nat) : Int)] := by
  unfold ddS
  rw [Lib.decDigits, dif_neg h]
  simp
  omega
theorem dd_ok : ∀ (f u : Nat), u < 10 ^ (f + 1) → dgs (ddS u) = true ∧ ddS u ≠ [] ∧ dval ((ddS u).map (· - 48)) = u ∧ (ddS u).length ≤ f + 1
  | 0, u, h => by
    have h' : u < 10 := by simpa using h
    rw [dd_small h']
    refine ⟨?_, by simp, ?_, by simp⟩
    · unfold dgs
      simp
      omega
    · simp [dval]
      omega
  | f + 1, u, h => by
    by_cases h' : u < 10
    · rw [dd_small h']
      refine ⟨?_, by simp, ?_, by simp⟩
      · unfold dgs
        simp
        omega
      · simp [dval]
        omega
    · have hd : u / 10 < 10 ^ (f + 1) := by
        have : 10 ^ (f + 1 + 1) = 10 ^ (f + 1) * 10 := Nat.pow_succ ..
        omega
      obtain ⟨i1, i2, i3, i4⟩ := dd_ok f (u / 10) hd
      rw [dd_big h']
      refine ⟨?_, by simp, ?_, by simp; omega⟩
      · rw [dgs_app, i1]
        unfold dgs
        simp
        omega
      · rw [List.map_append, List.map_cons, List.map_nil, dval_snoc, i3]
        omega
theorem sg_digit {l : List Int} (h : dgs l = true) (hn : l ≠ []) : sgS l = (false, l) := by
  cases l with
  | nil => exact absurd rfl hn
  | cons c l =>
    have h1 : 48 ≤ c ∧ c ≤ 57 := by
      unfold dgs at h
      simp at h
      exact h.1
    rw [sgS, if_neg (by omega), if_neg (by omega)]
theorem form3 {A : List Int} (hA : dgs A = true) (hn : A ≠ []) (hl : A.length ≤ 4096) : parS A = .ok (canS false (0 :: A.map (· - 48)) 0) := by
  rw [par_cut, sg_digit hA hn]
  dsimp only
  rw [ct_np hA, if_neg (by omega)]
  dsimp only
  rw [if_neg (fun q => hn q.1), if_pos (by rw [List.append_nil]; exact hA)]
  simp
theorem par_itoa (n : Int) (h0 : -9223372036854775808 ≤ n) (h1 : n ≤ 9223372036854775807) : parS ((Lib.itoa n).map fun c => (c.toNat : Int)) = .ok (inS n) := by
  have hb : n.natAbs < 10 ^ 20 := by
    have : (10 : Nat) ^ 20 = 100000000000000000000 := by decide
    omega
  have hb' : n.natAbs < 10 ^ (19 + 1) := hb
  obtain ⟨i1, i2, i3, i4⟩ := dd_ok 19 n.natAbs hb'
  have hin := in_ok n hb
  have key : ∀ neg : Bool, (if neg = true then -(n.natAbs : Int) else (n.natAbs : Int)) = n → canS neg (0 :: (ddS n.natAbs).map (· - 48)) 0 = inS n := by
    intro neg hv
    have hd := (dgs_dg i1).zero
    have k := canS_ok neg _ 0 hd (by simp)
    refine nm_uniq (S := 0) k.1 hin.1 k.2.1 (by rw [hin.2.1]; exact Nat.le_refl _) ?_
    rw [canS_nv _ _ _ hd (by simp), hin.2.2, dval_zero', i3]
    exact hv
  unfold Lib.itoa
  by_cases hneg : n < 0
  · rw [if_pos hneg, List.map_cons]
    have e : ((45 : UInt8).toNat : Int) = 45 := rfl
    rw [e]
    show parS (45 :: ddS n.natAbs) = _
    rw [form2 (g := 45) (.inr rfl) i1 i2 (by omega)]
    congr 1
    exact key true (by simp; omega)
  · rw [if_neg hneg]
    have e : n.toNat = n.natAbs := by omega
    rw [e]
    show parS (ddS n.natAbs) = _
    rw [form3 i1 i2 (by omega)]
    congr 1
    exact key false (by simp; omega)
end Go.Proofs.YtgaegajcejpmdaaGreatDoor.Dc
