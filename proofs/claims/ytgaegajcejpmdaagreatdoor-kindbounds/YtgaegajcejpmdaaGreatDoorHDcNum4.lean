/- The laws of sums and orders: plain. -/
import Derived.Test.YtgaegajcejpmdaaGreatDoorHDcNum3
namespace Go.Proofs.YtgaegajcejpmdaaGreatDoor.Dc
set_option linter.unusedVariables false
set_option linter.unusedSimpArgs false

/-- Orders by worth, at whatever scale. -/
theorem cmp_at {a b : Nm} (ha : CN a) (hb : CN b) {S : Nat} (h1 : a.2.2 ≤ S) (h2 : b.2.2 ≤ S) : (cmpS a b = -1 ∧ nv a S < nv b S) ∨ (cmpS a b = 0 ∧ nv a S = nv b S) ∨ (cmpS a b = 1 ∧ nv b S < nv a S) := by
  have hS : hiS a b ≤ S := by unfold hiS; omega
  have e1 := nv_up a (S := hiS a b) (T := S) (by unfold hiS; omega) hS
  have e2 := nv_up b (S := hiS a b) (T := S) (by unfold hiS; omega) hS
  have hp := p10_pos (S - hiS a b)
  rw [e1, e2]
  rcases cmp_ok ha hb with ⟨q1, q2⟩ | ⟨q1, q2⟩ | ⟨q1, q2⟩
  · exact .inl ⟨q1, Int.mul_lt_mul_of_pos_right q2 hp⟩
  · exact .inr (.inl ⟨q1, by rw [q2]⟩)
  · exact .inr (.inr ⟨q1, Int.mul_lt_mul_of_pos_right q2 hp⟩)
/-- Sums by worth, at whatever scale. -/
theorem sm_at {a b : Nm} (ha : CN a) (hb : CN b) {S : Nat} (h1 : a.2.2 ≤ S) (h2 : b.2.2 ≤ S) : CN (smS a b) ∧ (smS a b).2.2 ≤ S ∧ nv (smS a b) S = nv a S + nv b S := by
  have hS : hiS a b ≤ S := by unfold hiS; omega
  obtain ⟨q1, q2, q3, _⟩ := sm_ok ha hb
  refine ⟨q1, by omega, ?_⟩
  rw [nv_up (smS a b) q2 hS, nv_up a (S := hiS a b) (T := S) (by unfold hiS; omega) hS, nv_up b (S := hiS a b) (T := S) (by unfold hiS; omega) hS, q3, Int.add_mul]
theorem sm_comm {a b : Nm} (ha : CN a) (hb : CN b) : smS a b = smS b a := by
  obtain ⟨q1, q2, q3⟩ := sm_at ha hb (S := hiS a b) (by unfold hiS; omega) (by unfold hiS; omega)
  obtain ⟨r1, r2, r3⟩ := sm_at hb ha (S := hiS a b) (by unfold hiS; omega) (by unfold hiS; omega)
  exact nm_uniq q1 r1 q2 r2 (by omega)
theorem cmp_anti {a b : Nm} (ha : CN a) (hb : CN b) : cmpS b a = -(cmpS a b) := by
  have h1 := cmp_at ha hb (S := hiS a b) (by unfold hiS; omega) (by unfold hiS; omega)
  have h2 := cmp_at hb ha (S := hiS a b) (by unfold hiS; omega) (by unfold hiS; omega)
  omega
theorem cmp_zero {a b : Nm} (ha : CN a) (hb : CN b) : cmpS a b = 0 ↔ a = b := by
  have h1 := cmp_at ha hb (S := hiS a b) (by unfold hiS; omega) (by unfold hiS; omega)
  constructor
  · intro h
    exact nm_uniq (S := hiS a b) ha hb (by unfold hiS; omega) (by unfold hiS; omega) (by omega)
  · rintro rfl
    omega
theorem cmp_tri {a b : Nm} (ha : CN a) (hb : CN b) : cmpS a b = -1 ∨ cmpS a b = 0 ∨ cmpS a b = 1 := by
  rcases cmp_ok ha hb with q | q | q
  · exact .inl q.1
  · exact .inr (.inl q.1)
  · exact .inr (.inr q.1)
/-- The opposite. -/
def ngS (n : Nm) : Nm := (!n.1 && !(n.2.1.all (· == 0)), n.2.1, n.2.2)
theorem ng_ok {n : Nm} (h : CN n) : CN (ngS n) ∧ ∀ S, nv (ngS n) S = -(nv n S) := by
  have hz := all_zero h.1.dg
  obtain ⟨neg, l, s⟩ := n
  dsimp only at *
  unfold ngS
  dsimp only
  cases ha : l.all (· == 0) with
  | true =>
    have h0 := hz.1 ha
    refine ⟨⟨h.1, fun q => by simp at q⟩, fun S => ?_⟩
    unfold nv
    dsimp only
    rw [h0]; simp
  | false =>
    have h0 : dval l ≠ 0 := fun q => by rw [hz.2 q] at ha; simp at ha
    refine ⟨⟨h.1, fun _ => h0⟩, fun S => ?_⟩
    unfold nv
    dsimp only
    cases neg <;> simp
theorem ng_ng {n : Nm} (h : CN n) : ngS (ngS n) = n := by
  obtain ⟨q1, q2⟩ := ng_ok h
  obtain ⟨r1, r2⟩ := ng_ok q1
  exact nm_uniq (S := n.2.2) r1 h (Nat.le_refl _) (Nat.le_refl _) (by rw [r2, q2]; omega)
/-- A sum less one of its parts. -/
theorem sm_less {a b : Nm} (ha : CN a) (hb : CN b) : smS (smS a b) (ngS b) = a := by
  obtain ⟨n1, n2⟩ := ng_ok hb
  obtain ⟨q1, q2, q3⟩ := sm_at ha hb (S := hiS a b) (by unfold hiS; omega) (by unfold hiS; omega)
  have hb2 : (ngS b).2.2 ≤ hiS a b := by show b.2.2 ≤ _; unfold hiS; omega
  obtain ⟨r1, r2, r3⟩ := sm_at q1 n1 q2 hb2
  refine nm_uniq r1 ha r2 (by unfold hiS; omega) ?_
  rw [r3, q3, n2]
  omega
def zN : Nm := (false, [0], 0)
theorem z_cn : CN zN := ⟨⟨fun d hd => by simp [zN] at hd; omega, by simp [zN], .inl rfl, .inl rfl⟩, fun q => by simp [zN] at q⟩
theorem z_nv (S : Nat) : nv zN S = 0 := by
  unfold nv zN
  simp [dval]
theorem sm_opp {a : Nm} (ha : CN a) : smS a (ngS a) = zN := by
  obtain ⟨n1, n2⟩ := ng_ok ha
  obtain ⟨q1, q2, q3⟩ := sm_at ha n1 (S := a.2.2) (Nat.le_refl _) (Nat.le_refl _)
  refine nm_uniq q1 z_cn q2 (Nat.zero_le _) ?_
  rw [q3, n2, z_nv]
  omega
/-- What is added on both sides turns no order. -/
theorem cmp_add {a b c : Nm} (ha : CN a) (hb : CN b) (hc : CN c) : cmpS (smS a c) (smS b c) = cmpS a b := by
  have hS : ∃ S, a.2.2 ≤ S ∧ b.2.2 ≤ S ∧ c.2.2 ≤ S := ⟨a.2.2 + b.2.2 + c.2.2, by omega, by omega, by omega⟩
  obtain ⟨S, h1, h2, h3⟩ := hS
  obtain ⟨q1, q2, q3⟩ := sm_at ha hc h1 h3
  obtain ⟨r1, r2, r3⟩ := sm_at hb hc h2 h3
  have e1 := cmp_at q1 r1 q2 r2
  have e2 := cmp_at ha hb h1 h2
  omega
theorem cmp_neg {a b : Nm} (ha : CN a) (hb : CN b) : cmpS (ngS a) (ngS b) = cmpS b a := by
  obtain ⟨a1, a2⟩ := ng_ok ha
  obtain ⟨b1, b2⟩ := ng_ok hb
  have e1 := cmp_at a1 b1 (S := hiS a b) (by show a.2.2 ≤ _; unfold hiS; omega) (by show b.2.2 ≤ _; unfold hiS; omega)
  have e2 := cmp_at hb ha (S := hiS a b) (by unfold hiS; omega) (by unfold hiS; omega)
  rw [a2, b2] at e1
  omega
theorem cmp_trans {a b c : Nm} (ha : CN a) (hb : CN b) (hc : CN c) (h1 : cmpS a b ≤ 0) (h2 : cmpS b c ≤ 0) : cmpS a c ≤ 0 := by
  have hS : ∃ S, a.2.2 ≤ S ∧ b.2.2 ≤ S ∧ c.2.2 ≤ S := ⟨a.2.2 + b.2.2 + c.2.2, by omega, by omega, by omega⟩
  obtain ⟨S, k1, k2, k3⟩ := hS
  have e1 := cmp_at ha hb k1 k2
  have e2 := cmp_at hb hc k2 k3
  have e3 := cmp_at ha hc k1 k3
  omega
/-- A whole number's digits, by rounds. -/
def itS : Nat → Nat → List Int → List Int
  | 0, _, b => b
  | f + 1, u, b => if u > 0 ∨ b = [] then itS f (u / 10) ((u % 10 : Nat) :: b) else b
theorem it_ok : ∀ (f u : Nat) (b : List Int), u < 10 ^ f → Dg b → Dg (itS f u b) ∧ dval (itS f u b) = (u : Int) * p10 b.length + dval b ∧ b.length ≤ (itS f u b).length
  | 0, u, b, hu, hb => by
    have : u = 0 := by simpa using hu
    subst this
    simp [itS, hb]
  | f + 1, u, b, hu, hb => by
    rw [itS]
    by_cases h : u > 0 ∨ b = []
    · rw [if_pos h]
      have hd : Dg ((u % 10 : Nat) :: b : List Int) := by
        intro d hd
        rcases List.mem_cons.1 hd with e | e
        · omega
        · exact hb d e
      obtain ⟨q1, q2, q3⟩ := it_ok f (u / 10) _ (by rw [Nat.pow_succ] at hu; omega) hd
      refine ⟨q1, ?_, by rw [List.length_cons] at q3; omega⟩
      rw [q2, dval_cons, List.length_cons, p10_succ]
      have e : (u : Int) = ((u / 10 : Nat) : Int) * 10 + ((u % 10 : Nat) : Int) := by omega
      rw [Int.mul_comm (p10 b.length) 10, ← Int.mul_assoc, ← Int.add_assoc, ← Int.add_mul, ← e]
    · rw [if_neg h]
      have : u = 0 := by omega
      subst this
      simp [hb]
/-- Int. -/
def inS (n : Int) : Nm := canS (decide (n < 0)) (itS 20 n.natAbs []) 0
theorem in_ok (n : Int) (h : n.natAbs < 10 ^ 20) : CN (inS n) ∧ (inS n).2.2 = 0 ∧ nv (inS n) 0 = n := by
  obtain ⟨q1, q2, q3⟩ := it_ok 20 n.natAbs [] h (fun d hd => by simp at hd)
  obtain ⟨c1, c2, c3, c4, c5⟩ := canS_ok (decide (n < 0)) (itS 20 n.natAbs []) 0 q1 (Nat.zero_le _)
  have hv := canS_nv (decide (n < 0)) (itS 20 n.natAbs []) 0 q1 (Nat.zero_le _)
  have hq : dval (itS 20 n.natAbs []) = (n.natAbs : Int) := by
    rw [q2]
    simp [p10, dval]
  refine ⟨c1, by unfold inS; omega, ?_⟩
  unfold inS
  rw [hv, hq]
  by_cases hn : n < 0
  · rw [if_pos (by simp [hn])]; omega
  · rw [if_neg (by simp [hn])]; omega
theorem in_cmp {n m : Int} (hn : n.natAbs < 10 ^ 20) (hm : m.natAbs < 10 ^ 20) : (cmpS (inS n) (inS m) < 0 ↔ n < m) ∧ (cmpS (inS n) (inS m) = 0 ↔ n = m) := by
  obtain ⟨a1, a2, a3⟩ := in_ok n hn
  obtain ⟨b1, b2, b3⟩ := in_ok m hm
  have e := cmp_at a1 b1 (S := 0) (by omega) (by omega)
  rw [a3, b3] at e
  omega
theorem in_sum {n m : Int} (hn : n.natAbs < 10 ^ 19) (hm : m.natAbs < 10 ^ 19) : cmpS (smS (inS n) (inS m)) (inS (n + m)) = 0 := by
  obtain ⟨a1, a2, a3⟩ := in_ok n (by omega)
  obtain ⟨b1, b2, b3⟩ := in_ok m (by omega)
  obtain ⟨c1, c2, c3⟩ := in_ok (n + m) (by omega)
  obtain ⟨q1, q2, q3⟩ := sm_at a1 b1 (S := 0) (by omega) (by omega)
  have e := cmp_at q1 c1 (S := 0) q2 (by omega)
  rw [q3, a3, b3, c3] at e
  omega
end Go.Proofs.YtgaegajcejpmdaaGreatDoor.Dc
