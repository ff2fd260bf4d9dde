/- The program's sum: plain. -/
import Derived.Test.YtakemkhgaicckaaDoorE0
namespace Go.Proofs.YtakemkhgaicckaaDoor
set_option linter.unusedVariables false
set_option linter.unusedSimpArgs false

theorem sz_ahead {P Q : Nm} (hP : CN P) (hQ : CN Q) (h : ¬ szS P Q < 0) : Q.2.1.length - Q.2.2 ≤ P.2.1.length - P.2.2 := by
  rw [← fc_sz hP hQ] at h
  unfold fcS at h
  apply Classical.byContradiction
  intro hc
  rw [if_pos (by omega)] at h
  omega
theorem add_val {P Q : Nm} (hP : CN P) (hQ : CN Q) {sl : List Int} (hd : Dg sl) (hl : sl.length = hiX P Q + 1 + hiS P Q)
    (hv : (P.1 = Q.1 ∧ dval sl = dval (exA P Q) + dval (exB P Q)) ∨ (P.1 ≠ Q.1 ∧ dval sl = dval (exA P Q) - dval (exB P Q))) : canS P.1 sl (hiS P Q) = smS P Q := by
  have k1 := canS_ok P.1 sl (hiS P Q) hd (by omega)
  have k2 := sm_ok hP hQ
  refine nm_uniq (S := hiS P Q) k1.1 k2.1 k1.2.1 k2.2.1 ?_
  rw [canS_nv _ _ _ hd (by omega), k2.2.2.1, (nv_ex hP hQ).1, (nv_ex hP hQ).2]
  rcases hv with ⟨e, h⟩ | ⟨e, h⟩
  · rw [h, ← e]
    split <;> omega
  · rw [h]
    cases hp : P.1 <;> cases hq : Q.1
    · rw [hp, hq] at e; exact absurd rfl e
    · simp
      omega
    · simp
      omega
    · rw [hp, hq] at e; exact absurd rfl e
theorem add_bd {P Q : Nm} (hP : CN P) (hQ : CN Q) : dval (exA P Q) + dval (exB P Q) < p10 (hiX P Q + 1 + hiS P Q) := by
  obtain ⟨_, _, _, _, e5, e6⟩ := ex_ok hP hQ
  have l1 := hP.1.len
  have l2 := hQ.1.len
  have q1 := dval_lt (s := P.2.2) (S := hiS P Q) hP.1.dg (by unfold hiS; omega) (x := hiX P Q) (by unfold hiX; omega) (by omega)
  have q2 := dval_lt (s := Q.2.2) (S := hiS P Q) hQ.1.dg (by unfold hiS; omega) (x := hiX P Q) (by unfold hiX; omega) (by omega)
  have e : hiX P Q + 1 + hiS P Q = (hiX P Q + hiS P Q) + 1 := by omega
  rw [e5, e6, e, p10_succ]
  have := p10_pos (hiX P Q + hiS P Q)
  omega
theorem sub_bd {P Q : Nm} (hP : CN P) (hQ : CN Q) (h : ¬ szS P Q < 0) : dval (exB P Q) ≤ dval (exA P Q) := by
  rcases sz_ok hP hQ with q | q
  · exact absurd q.1 h
  · exact q.2
theorem sz_turn {a b : Nm} (ha : CN a) (hb : CN b) : szS b a = -(szS a b) := by
  obtain ⟨e1, e2, e3, e4, e5, e6⟩ := ex_ok ha hb
  obtain ⟨f1, f2, f3, f4, f5, f6⟩ := ex_ok hb ha
  have k1 := lex_val (a := exA a b) (b := exB a b) (by rw [e1, e2]) e3 e4
  have k2 := lex_val (a := exA b a) (b := exB b a) (by rw [f1, f2]) f3 f4
  have g1 : dval (exA b a) = dval (exB a b) := by rw [f5, e6, hiS_comm]
  have g2 : dval (exB b a) = dval (exA a b) := by rw [f6, e5, hiS_comm]
  rw [g1, g2] at k2
  unfold szS
  rcases k1 with ⟨p1, p2⟩ | ⟨p1, p2⟩ | ⟨p1, p2⟩ <;> rcases k2 with ⟨q1, q2⟩ | ⟨q1, q2⟩ | ⟨q1, q2⟩
  · omega
  · rw [q2] at g1; omega
  · rw [p1, q1]; rfl
  · rw [p2] at q2; omega
  · rw [p1, q1]; rfl
  · rw [p2] at q2; omega
  · rw [p1, q1]
  · rw [q2] at g1; omega
  · omega
end Go.Proofs.YtakemkhgaicckaaDoor
