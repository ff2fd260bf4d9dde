/- Digits with noughts about them: plain. -/
import Derived.Test.YtakemkhgaicckaaDoorQ0
namespace Go.Proofs.YtakemkhgaicckaaDoor
set_option linter.unusedVariables false
set_option linter.unusedSimpArgs false

theorem ct_pt : ∀ {x : List Int} (y : List Int), dgs x = true → ctS (x ++ 46 :: y) = (x, y)
  | [], y, _ => by simp [ctS]
  | c :: x, y, h => by
    have h1 : (48 ≤ c ∧ c ≤ 57) ∧ dgs x = true := by
      unfold dgs at h ⊢
      simpa using h
    rw [List.cons_append, ctS, if_neg (by omega), ct_pt y h1.2]
theorem ct_np : ∀ {x : List Int}, dgs x = true → ctS x = (x, [])
  | [], _ => rfl
  | c :: x, h => by
    have h1 : (48 ≤ c ∧ c ≤ 57) ∧ dgs x = true := by
      unfold dgs at h ⊢
      simpa using h
    rw [ctS, if_neg (by omega), ct_np h1.2]
theorem sg_sign {g : Int} {l : List Int} (hg : g = 43 ∨ g = 45) : sgS (g :: l) = (decide (g = 45), l) := by
  rw [sgS]
  rcases hg with rfl | rfl
  · simp
  · simp
theorem form1 {g : Int} {A B : List Int} (hg : g = 43 ∨ g = 45) (hA : dgs A = true) (hB : dgs B = true) (hn : A ≠ []) (hl : A.length + B.length + 2 ≤ 4096) : parS (g :: (A ++ 46 :: B)) = .ok (canS (decide (g = 45)) (0 :: (A ++ B).map (· - 48)) B.length) := by
  rw [par_cut, sg_sign hg]
  dsimp only
  rw [ct_pt B hA, if_neg (by simp; omega)]
  dsimp only
  rw [if_neg (fun q => hn q.1), if_pos (by rw [dgs_app, hA, hB]; rfl)]
theorem form2 {g : Int} {A : List Int} (hg : g = 43 ∨ g = 45) (hA : dgs A = true) (hn : A ≠ []) (hl : A.length + 1 ≤ 4096) : parS (g :: A) = .ok (canS (decide (g = 45)) (0 :: A.map (· - 48)) 0) := by
  rw [par_cut, sg_sign hg]
  dsimp only
  rw [ct_np hA, if_neg (by simp; omega)]
  dsimp only
  rw [if_neg (fun q => hn q.1), if_pos (by rw [List.append_nil]; exact hA)]
  simp
theorem Dg.zero {l : List Int} (h : Dg l) : Dg (0 :: l) := fun d hd => by
  rcases List.mem_cons.1 hd with q | q
  · omega
  · exact h d q
theorem dval_zero' (l : List Int) : dval (0 :: l) = dval l := by rw [dval_cons]; simp
/-- Noughts on both sides. -/
theorem can_about (neg : Bool) {D : List Int} {s : Nat} (k : Nat) (h : Dg D) (hs : s ≤ D.length) : canS neg (0 :: (List.replicate k 0 ++ (D ++ List.replicate k 0))) (s + k) = canS neg (0 :: D) s := by
  have d1 := h.zero
  have d2 : Dg (0 :: (List.replicate k 0 ++ (D ++ List.replicate k 0))) := ((Dg.rep k).app (h.app (Dg.rep k))).zero
  have l1 : s ≤ (0 :: D).length := by simp; omega
  have l2 : s + k ≤ (0 :: (List.replicate k (0 : Int) ++ (D ++ List.replicate k 0))).length := by simp; omega
  have k1 := canS_ok neg _ s d1 l1
  have k2 := canS_ok neg _ (s + k) d2 l2
  refine nm_uniq (S := s + k) k2.1 k1.1 k2.2.1 (by have := k1.2.1; omega) ?_
  rw [nv_up _ k1.2.1 (Nat.le_add_right s k), canS_nv _ _ _ d1 l1, canS_nv _ _ _ d2 l2]
  have e : s + k - s = k := by omega
  rw [e, dval_zero', dval_zero', dval_append, dval_append, dval_rep, List.length_replicate]
  simp only [Int.zero_mul, Int.zero_add, Int.add_zero]
  split
  · rw [Int.neg_mul]
  · rfl
/-- The three texts. -/
theorem forms3 {g : Int} {A B : List Int} {k : Nat} (hg : g = 43 ∨ g = 45) (hA : dgs A = true) (hB : dgs B = true) (l1 : A.length ≤ 60) (l2 : B.length ≤ 60) (l3 : k ≤ 60) :
    ∃ n m : Nm, parS (g :: (48 :: A ++ 46 :: B)) = .ok n ∧ parS (g :: (List.replicate k 48 ++ 48 :: A ++ 46 :: (B ++ List.replicate k 48))) = .ok n ∧ parS (g :: (48 :: A ++ B)) = .ok m ∧ (B = [] → m = n) ∧ n.2.2 ≤ B.length ∧ n.2.1.length ≤ 600 ∧ m.2.1.length ≤ 600 := by
  have hA' : dgs (48 :: A) = true := by unfold dgs at hA ⊢; simpa using hA
  have hZ : dgs (List.replicate k 48) = true := by
    unfold dgs
    rw [List.all_eq_true]
    intro c hc
    have := (List.mem_replicate.1 hc).2
    subst this
    decide
  have hD : Dg ((48 :: A ++ B).map (· - 48)) := dgs_dg (by rw [dgs_app, hA', hB]; rfl)
  refine ⟨_, _, form1 hg hA' hB (by simp) (by simp; omega), ?_, form2 hg (A := 48 :: A ++ B) (by rw [dgs_app, hA', hB]; rfl) (by simp) (by simp; omega), ?_, ?_, ?_, ?_⟩
  · have e := form1 (g := g) (A := List.replicate k 48 ++ 48 :: A) (B := B ++ List.replicate k 48) hg (by rw [dgs_app, hZ, hA']; rfl) (by rw [dgs_app, hB, hZ]; rfl) (by simp) (by simp; omega)
    rw [e]
    congr 1
    have e1 : ((List.replicate k (48 : Int) ++ 48 :: A) ++ (B ++ List.replicate k 48)).map (· - 48) = List.replicate k 0 ++ ((48 :: A ++ B).map (· - 48) ++ List.replicate k 0) := by
      simp
    have e2 : (B ++ List.replicate k (48 : Int)).length = B.length + k := by simp
    rw [e1, e2]
    exact can_about _ k hD (by simp; omega)
  · rintro rfl
    simp
  · exact (canS_ok _ _ _ hD.zero (by simp; omega)).2.1
  · have := (canS_ok (decide (g = 45)) _ B.length hD.zero (by simp; omega)).2.2.2.2
    simp at this
    simp
    omega
  · have := (canS_ok (decide (g = 45)) _ 0 hD.zero (by simp)).2.2.2.2
    simp at this
    simp
    omega
end Go.Proofs.YtakemkhgaicckaaDoor
