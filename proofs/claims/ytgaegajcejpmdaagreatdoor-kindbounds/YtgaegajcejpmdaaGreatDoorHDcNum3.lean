/- Sums and orders of numbers: plain. -/
import Derived.Test.YtgaegajcejpmdaaGreatDoorHDcNum2
namespace Go.Proofs.YtgaegajcejpmdaaGreatDoor.Dc
set_option linter.unusedVariables false
set_option linter.unusedSimpArgs false

/-- Digits laid out from the place x - 1 down to the place -s. -/
def ext (l : List Int) (sc x s : Nat) : List Int := List.replicate (x - (l.length - sc)) 0 ++ (l ++ List.replicate (s - sc) 0)
theorem ext_len {l : List Int} {sc x s : Nat} (h1 : sc ≤ l.length) (h2 : l.length - sc ≤ x) (h3 : sc ≤ s) : (ext l sc x s).length = x + s := by
  unfold ext
  simp
  omega
theorem ext_dg {l : List Int} {sc x s : Nat} (h : Dg l) : Dg (ext l sc x s) := (Dg.rep _).app (h.app (Dg.rep _))
theorem ext_val (l : List Int) (sc x s : Nat) : dval (ext l sc x s) = dval l * p10 (s - sc) := by
  unfold ext
  rw [dval_append, dval_rep, dval_append, dval_rep]
  simp
/-- A sum from the right: what is carried, and the digits. -/
def addL : List Int → List Int → Int × List Int
  | a :: as, b :: bs => ((a + b + (addL as bs).1) / 10, (a + b + (addL as bs).1) % 10 :: (addL as bs).2)
  | _, _ => (0, [])
theorem addL_ok : ∀ {a b : List Int}, a.length = b.length → Dg a → Dg b → (addL a b).2.length = a.length ∧ Dg (addL a b).2 ∧ dval (addL a b).2 + (addL a b).1 * p10 a.length = dval a + dval b ∧ 0 ≤ (addL a b).1 ∧ (addL a b).1 ≤ 1
  | [], [], _, _, _ => by simp [addL, dval_nil, Dg]
  | a :: as, b :: bs, hl, ha, hb => by
    obtain ⟨hd1, h1⟩ := ha.cons
    obtain ⟨hd2, h2⟩ := hb.cons
    have hl' : as.length = bs.length := by simpa using hl
    obtain ⟨q1, q2, q3, q4, q5⟩ := addL_ok hl' h1 h2
    rw [addL]
    generalize addL as bs = R at *
    obtain ⟨c, o⟩ := R
    dsimp only at *
    refine ⟨by simp [q1], ?_, ?_, by omega, by omega⟩
    · intro d hd
      rcases List.mem_cons.1 hd with e | e
      · omega
      · exact q2 d e
    · rw [dval_cons, dval_cons, dval_cons, q1, List.length_cons, p10_succ, ← hl']
      have e : (a + b + c) % 10 + (a + b + c) / 10 * 10 = a + b + c := by omega
      have e2 : ((a + b + c) % 10 + (a + b + c) / 10 * 10) * p10 as.length = (a + b + c) * p10 as.length := by rw [e]
      rw [Int.add_mul, Int.add_mul, Int.add_mul] at e2
      have e3 : (a + b + c) / 10 * (p10 as.length * 10) = (a + b + c) / 10 * 10 * p10 as.length := by
        rw [Int.mul_assoc, Int.mul_comm (p10 as.length) 10]
      rw [e3]
      omega
/-- A difference from the right: what is borrowed, and the digits. -/
def subL : List Int → List Int → Int × List Int
  | a :: as, b :: bs => (if a - b - (subL as bs).1 < 0 then 1 else 0, (if a - b - (subL as bs).1 < 0 then a - b - (subL as bs).1 + 10 else a - b - (subL as bs).1) :: (subL as bs).2)
  | _, _ => (0, [])
theorem subL_ok : ∀ {a b : List Int}, a.length = b.length → Dg a → Dg b → (subL a b).2.length = a.length ∧ Dg (subL a b).2 ∧ dval (subL a b).2 - (subL a b).1 * p10 a.length = dval a - dval b ∧ 0 ≤ (subL a b).1 ∧ (subL a b).1 ≤ 1
  | [], [], _, _, _ => by simp [subL, dval_nil, Dg]
  | a :: as, b :: bs, hl, ha, hb => by
    obtain ⟨hd1, h1⟩ := ha.cons
    obtain ⟨hd2, h2⟩ := hb.cons
    have hl' : as.length = bs.length := by simpa using hl
    obtain ⟨q1, q2, q3, q4, q5⟩ := subL_ok hl' h1 h2
    rw [subL]
    generalize subL as bs = R at *
    obtain ⟨c, o⟩ := R
    dsimp only at *
    by_cases hlt : a - b - c < 0
    · rw [if_pos hlt, if_pos hlt]
      refine ⟨by simp [q1], ?_, ?_, by omega, by omega⟩
      · intro d hd
        rcases List.mem_cons.1 hd with e | e
        · omega
        · exact q2 d e
      · rw [dval_cons, dval_cons, dval_cons, q1, List.length_cons, p10_succ, ← hl']
        have e2 : (a - b - c + 10) * p10 as.length = a * p10 as.length - b * p10 as.length - c * p10 as.length + 10 * p10 as.length := by
          rw [Int.add_mul, Int.sub_mul, Int.sub_mul]
        rw [e2]
        omega
    · rw [if_neg hlt, if_neg hlt]
      refine ⟨by simp [q1], ?_, ?_, by omega, by omega⟩
      · intro d hd
        rcases List.mem_cons.1 hd with e | e
        · omega
        · exact q2 d e
      · rw [dval_cons, dval_cons, dval_cons, q1, List.length_cons, p10_succ, ← hl']
        have e2 : (a - b - c) * p10 as.length = a * p10 as.length - b * p10 as.length - c * p10 as.length := by
          rw [Int.sub_mul, Int.sub_mul]
        rw [e2]
        omega
/-- The greater number of places ahead of the point, behind it. -/
def hiX (a b : Nm) : Nat := max (a.2.1.length - a.2.2) (b.2.1.length - b.2.2)
def hiS (a b : Nm) : Nat := max a.2.2 b.2.2
/-- Both laid out alike, with one place more ahead. -/
def exA (a b : Nm) : List Int := ext a.2.1 a.2.2 (hiX a b + 1) (hiS a b)
def exB (a b : Nm) : List Int := ext b.2.1 b.2.2 (hiX a b + 1) (hiS a b)
def szS (a b : Nm) : Int := lexS (exA a b) (exB a b)
def cmpS (a b : Nm) : Int := if a.1 ≠ b.1 then (if a.1 = true then -1 else 1) else if a.1 = true then -(szS a b) else szS a b
/-- The sum, made canonical. -/
def smS (a b : Nm) : Nm :=
  if a.1 = b.1 then canS a.1 (addL (exA a b) (exB a b)).2 (hiS a b)
  else if szS a b < 0 then canS b.1 (subL (exB a b) (exA a b)).2 (hiS a b)
  else canS a.1 (subL (exA a b) (exB a b)).2 (hiS a b)
def adS (a b : Nm) : Except Int Nm := if 4096 < (smS a b).2.1.length then .error 3 else .ok (smS a b)
theorem ex_ok {a b : Nm} (ha : CN a) (hb : CN b) : (exA a b).length = hiX a b + 1 + hiS a b ∧ (exB a b).length = hiX a b + 1 + hiS a b ∧ Dg (exA a b) ∧ Dg (exB a b) ∧ dval (exA a b) = dval a.2.1 * p10 (hiS a b - a.2.2) ∧ dval (exB a b) = dval b.2.1 * p10 (hiS a b - b.2.2) := by
  have h1 := ha.1.len
  have h2 := hb.1.len
  refine ⟨ext_len (by omega) (by unfold hiX; omega) (by unfold hiS; omega), ext_len (by omega) (by unfold hiX; omega) (by unfold hiS; omega), ext_dg ha.1.dg, ext_dg hb.1.dg, ext_val _ _ _ _, ext_val _ _ _ _⟩
theorem dval_lt {l : List Int} {s S : Nat} (h : Dg l) (hs : s ≤ S) {x : Nat} (hx : l.length - s ≤ x) (hl : s ≤ l.length) : dval l * p10 (S - s) < p10 (x + S) := by
  have hv := (dval_bd h).2
  have hp := p10_pos (S - s)
  have h1 : dval l * p10 (S - s) < p10 l.length * p10 (S - s) := Int.mul_lt_mul_of_pos_right hv hp
  rw [← p10_add] at h1
  have h2 := p10_mono (a := l.length + (S - s)) (b := x + S) (by omega)
  omega
/-- Each is worth what it is worth, at the common scale. -/
theorem nv_ex {a b : Nm} (ha : CN a) (hb : CN b) : nv a (hiS a b) = (if a.1 = true then -(dval (exA a b)) else dval (exA a b)) ∧ nv b (hiS a b) = (if b.1 = true then -(dval (exB a b)) else dval (exB a b)) := by
  obtain ⟨_, _, _, _, h5, h6⟩ := ex_ok ha hb
  rw [h5, h6]
  exact ⟨rfl, rfl⟩
/-- Orders by worth. -/
theorem cmp_ok {a b : Nm} (ha : CN a) (hb : CN b) : (cmpS a b = -1 ∧ nv a (hiS a b) < nv b (hiS a b)) ∨ (cmpS a b = 0 ∧ nv a (hiS a b) = nv b (hiS a b)) ∨ (cmpS a b = 1 ∧ nv b (hiS a b) < nv a (hiS a b)) := by
  obtain ⟨e1, e2, e3, e4, e5, e6⟩ := ex_ok ha hb
  obtain ⟨n1, n2⟩ := nv_ex ha hb
  have hl := lex_val (e1.trans e2.symm) e3 e4
  have v1 := (dval_bd e3).1
  have v2 := (dval_bd e4).1
  have z1 : a.1 = true → dval (exA a b) ≠ 0 := fun q e => by
    rw [e5] at e
    have hp := p10_pos (hiS a b - a.2.2)
    rcases Int.mul_eq_zero.1 e with r | r
    · exact ha.2 q r
    · omega
  have z2 : b.1 = true → dval (exB a b) ≠ 0 := fun q e => by
    rw [e6] at e
    have hp := p10_pos (hiS a b - b.2.2)
    rcases Int.mul_eq_zero.1 e with r | r
    · exact hb.2 q r
    · omega
  rw [n1, n2]
  unfold cmpS szS
  cases h1 : a.1 <;> cases h2 : b.1
  · simp only [ne_eq, not_true_eq_false, if_false, Bool.false_eq_true]
    rcases hl with ⟨q1, q2⟩ | ⟨q1, q2⟩ | ⟨q1, q2⟩
    · exact .inl ⟨q1, q2⟩
    · exact .inr (.inl ⟨q1, by rw [q2]⟩)
    · exact .inr (.inr ⟨q1, q2⟩)
  · have := z2 h2
    simp
    omega
  · have := z1 h1
    simp
    omega
  · simp only [ne_eq, not_true_eq_false, if_false, if_true]
    rcases hl with ⟨q1, q2⟩ | ⟨q1, q2⟩ | ⟨q1, q2⟩
    · exact .inr (.inr ⟨by omega, by omega⟩)
    · exact .inr (.inl ⟨by omega, by rw [q2]⟩)
    · exact .inl ⟨by omega, by omega⟩
theorem sz_ok {a b : Nm} (ha : CN a) (hb : CN b) : (szS a b < 0 ∧ dval (exA a b) < dval (exB a b)) ∨ (¬ szS a b < 0 ∧ dval (exB a b) ≤ dval (exA a b)) := by
  obtain ⟨e1, e2, e3, e4, _⟩ := ex_ok ha hb
  unfold szS
  rcases lex_val (e1.trans e2.symm) e3 e4 with ⟨q1, q2⟩ | ⟨q1, q2⟩ | ⟨q1, q2⟩
  · exact .inl ⟨by omega, q2⟩
  · exact .inr ⟨by omega, by rw [q2]; omega⟩
  · exact .inr ⟨by omega, by omega⟩
/-- A sum is canonical, and worth the sum. -/
theorem sm_ok {a b : Nm} (ha : CN a) (hb : CN b) : CN (smS a b) ∧ (smS a b).2.2 ≤ hiS a b ∧ nv (smS a b) (hiS a b) = nv a (hiS a b) + nv b (hiS a b) ∧ (smS a b).2.1.length ≤ hiX a b + 1 + hiS a b := by
  obtain ⟨e1, e2, e3, e4, e5, e6⟩ := ex_ok ha hb
  obtain ⟨n1, n2⟩ := nv_ex ha hb
  have la := ha.1.len
  have lb := hb.1.len
  have hX : 1 ≤ hiX a b := by unfold hiX; omega
  unfold smS
  by_cases hs : a.1 = b.1
  · rw [if_pos hs]
    obtain ⟨q1, q2, q3, q4, q5⟩ := addL_ok (e1.trans e2.symm) e3 e4
    have b1 := dval_lt ha.1.dg (s := a.2.2) (S := hiS a b) (by unfold hiS; omega) (x := hiX a b) (by unfold hiX; omega) (by omega)
    have b2 := dval_lt hb.1.dg (s := b.2.2) (S := hiS a b) (by unfold hiS; omega) (x := hiX a b) (by unfold hiX; omega) (by omega)
    rw [← e5] at b1
    rw [← e6] at b2
    have hc : (addL (exA a b) (exB a b)).1 = 0 := by
      apply Classical.byContradiction
      intro hne
      have h1 : (addL (exA a b) (exB a b)).1 = 1 := by omega
      rw [h1, e1] at q3
      have hv := (dval_bd q2).1
      have hp : p10 (hiX a b + 1 + hiS a b) = p10 (hiX a b + hiS a b) * 10 := by
        have : hiX a b + 1 + hiS a b = hiX a b + hiS a b + 1 := by omega
        rw [this, p10_succ]
      have := p10_pos (hiX a b + hiS a b)
      omega
    rw [hc] at q3
    have hlen : hiS a b ≤ (addL (exA a b) (exB a b)).2.length := by omega
    obtain ⟨c1, c2, c3, c4, c5⟩ := canS_ok a.1 _ (hiS a b) q2 hlen
    have hv := canS_nv a.1 _ (hiS a b) q2 hlen
    refine ⟨c1, c2, ?_, by omega⟩
    rw [hv, n1, n2, ← hs]
    have q3' : dval (addL (exA a b) (exB a b)).2 = dval (exA a b) + dval (exB a b) := by omega
    rw [q3']
    split <;> omega
  · rw [if_neg hs]
    have hz := sz_ok ha hb
    by_cases hlt : szS a b < 0
    · rw [if_pos hlt]
      obtain ⟨q1, q2, q3, q4, q5⟩ := subL_ok (e2.trans e1.symm) e4 e3
      have hge : dval (exA a b) < dval (exB a b) := by
        rcases hz with ⟨_, q⟩ | ⟨q, _⟩
        · exact q
        · exact absurd hlt q
      have hv0 := dval_bd q2
      have hc : (subL (exB a b) (exA a b)).1 = 0 := by
        apply Classical.byContradiction
        intro hne
        have h1 : (subL (exB a b) (exA a b)).1 = 1 := by omega
        rw [h1] at q3
        rw [q1] at hv0
        omega
      rw [hc] at q3
      have hlen : hiS a b ≤ (subL (exB a b) (exA a b)).2.length := by omega
      obtain ⟨c1, c2, c3, c4, c5⟩ := canS_ok b.1 _ (hiS a b) q2 hlen
      have hv := canS_nv b.1 _ (hiS a b) q2 hlen
      refine ⟨c1, c2, ?_, by omega⟩
      rw [hv, n1, n2]
      cases h1 : a.1 <;> cases h2 : b.1
      · exact absurd (h1.trans h2.symm) hs
      · simp; omega
      · simp; omega
      · exact absurd (h1.trans h2.symm) hs
    · rw [if_neg hlt]
      obtain ⟨q1, q2, q3, q4, q5⟩ := subL_ok (e1.trans e2.symm) e3 e4
      have hge : dval (exB a b) ≤ dval (exA a b) := by
        rcases hz with ⟨q, _⟩ | ⟨_, q⟩
        · exact absurd q hlt
        · exact q
      have hv0 := dval_bd q2
      have hc : (subL (exA a b) (exB a b)).1 = 0 := by
        apply Classical.byContradiction
        intro hne
        have h1 : (subL (exA a b) (exB a b)).1 = 1 := by omega
        rw [h1] at q3
        rw [q1] at hv0
        omega
      rw [hc] at q3
      have hlen : hiS a b ≤ (subL (exA a b) (exB a b)).2.length := by omega
      obtain ⟨c1, c2, c3, c4, c5⟩ := canS_ok a.1 _ (hiS a b) q2 hlen
      have hv := canS_nv a.1 _ (hiS a b) q2 hlen
      refine ⟨c1, c2, ?_, by omega⟩
      rw [hv, n1, n2]
      cases h1 : a.1 <;> cases h2 : b.1
      · exact absurd (h1.trans h2.symm) hs
      · simp; omega
      · simp; omega
      · exact absurd (h1.trans h2.symm) hs
end Go.Proofs.YtgaegajcejpmdaaGreatDoor.Dc
