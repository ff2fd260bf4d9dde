/- Joined: HDcF0, HDcG0. -/
import Derived.Test.YtgaegajcejpmdaaGreatDoorHDcQ0
import Derived.Lib.ItoaNum
namespace Go.Proofs.YtgaegajcejpmdaaGreatDoor.Dc
set_option linter.unusedVariables false
set_option linter.unusedSimpArgs false

theorem ct_pt : ∀ {x : List Int} (y : List Int), dgs x = true → ctS (x ++ 46 :: y) = (x, y)
  | [], y, _ => by simp [ctS]
  | c :: x, y, h => by
    have h1 : (48 ≤ c ∧ c ≤ 57) ∧ dgs x = true := by
      unfold dgs at h ⊢
      simpa using h
    rw [List.cons_append, ctS, if_neg (by omega), ct_pt y h1.2]
theorem ct_np : ∀ {x : List Int}, dgs x = true → ctS x = (x, [])
  | [], _ => rfl
  | c :: x, h => by
    have h1 : (48 ≤ c ∧ c ≤ 57) ∧ dgs x = true := by
      unfold dgs at h ⊢
      simpa using h
    rw [ctS, if_neg (by omega), ct_np h1.2]
theorem sg_sign {g : Int} {l : List Int} (hg : g = 43 ∨ g = 45) : sgS (g :: l) = (decide (g = 45), l) := by
  rw [sgS]
  rcases hg with rfl | rfl
  · simp
  · simp
theorem form1 {g : Int} {A B : List Int} (hg : g = 43 ∨ g = 45) (hA : dgs A = true) (hB : dgs B = true) (hn : A ≠ []) (hl : A.length + B.length + 2 ≤ 4096) : parS (g :: (A ++ 46 :: B)) = .ok (canS (decide (g = 45)) (0 :: (A ++ B).map (· - 48)) B.length) := by
  rw [par_cut, sg_sign hg]
  dsimp only
  rw [ct_pt B hA, if_neg (by simp; omega)]
  dsimp only
  rw [if_neg (fun q => hn q.1), if_pos (by rw [dgs_app, hA, hB]; rfl)]
theorem form2 {g : Int} {A : List Int} (hg : g = 43 ∨ g = 45) (hA : dgs A = true) (hn : A ≠ []) (hl : A.length + 1 ≤ 4096) : parS (g :: A) = .ok (canS (decide (g = 45)) (0 :: A.map (· - 48)) 0) := by
  rw [par_cut, sg_sign hg]
  dsimp only
  rw [ct_np hA, if_neg (by simp; omega)]
  dsimp only
  rw [if_neg (fun q => hn q.1), if_pos (by rw [List.append_nil]; exact hA)]
  simp
theorem Dg.zero {l : List Int} (h : Dg l) : Dg (0 :: l) := fun d hd => by
  rcases List.mem_cons.1 hd with q | q
  · omega
  · exact h d q
theorem dval_zero' (l : List Int) : dval (0 :: l) = dval l := by rw [dval_cons]; simp
/-- Noughts on both sides. -/
theorem can_about (neg : Bool) {D : List Int} {s : Nat} (k : Nat) (h : Dg D) (hs : s ≤ D.length) : canS neg (0 :: (List.replicate k 0 ++ (D ++ List.replicate k 0))) (s + k) = canS neg (0 :: D) s := by
  have d1 := h.zero
  have d2 : Dg (0 :: (List.replicate k 0 ++ (D ++ List.replicate k 0))) := ((Dg.rep k).app (h.app (Dg.rep k))).zero
  have l1 : s ≤ (0 :: D).length := by simp; omega
  have l2 : s + k ≤ (0 :: (List.replicate k (0 : Int) ++ (D ++ List.replicate k 0))).length := by simp; omega
  have k1 := canS_ok neg _ s d1 l1
  have k2 := canS_ok neg _ (s + k) d2 l2
  refine nm_uniq (S := s + k) k2.1 k1.1 k2.2.1 (by have := k1.2.1; omega) ?_
  rw [nv_up _ k1.2.1 (Nat.le_add_right s k), canS_nv _ _ _ d1 l1, canS_nv _ _ _ d2 l2]
  have e : s + k - s = k := by omega
  rw [e, dval_zero', dval_zero', dval_append, dval_append, dval_rep, List.length_replicate]
  simp only [Int.zero_mul, Int.zero_add, Int.add_zero]
  split
  · rw [Int.neg_mul]
  · rfl
/-- The three texts. -/
theorem forms3 {g : Int} {A B : List Int} {k : Nat} (hg : g = 43 ∨ g = 45) (hA : dgs A = true) (hB : dgs B = true) (l1 : A.length ≤ 60) (l2 : B.length ≤ 60) (l3 : k ≤ 60) :
    ∃ n m : Nm, parS (g :: (48 :: A ++ 46 :: B)) = .ok n ∧ parS (g :: (List.replicate k 48 ++ 48 :: A ++ 46 :: (B ++ List.replicate k 48))) = .ok n ∧ parS (g :: (48 :: A ++ B)) = .ok m ∧ (B = [] → m = n) ∧ n.2.2 ≤ B.length ∧ n.2.1.length ≤ 600 ∧ m.2.1.length ≤ 600 := by
  have hA' : dgs (48 :: A) = true := by unfold dgs at hA ⊢; simpa using hA
  have hZ : dgs (List.replicate k 48) = true := by
    unfold dgs
    rw [List.all_eq_true]
    intro c hc
    have := (List.mem_replicate.1 hc).2
    subst this
    decide
  have hD : Dg ((48 :: A ++ B).map (· - 48)) := dgs_dg (by rw [dgs_app, hA', hB]; rfl)
  refine ⟨_, _, form1 hg hA' hB (by simp) (by simp; omega), ?_, form2 hg (A := 48 :: A ++ B) (by rw [dgs_app, hA', hB]; rfl) (by simp) (by simp; omega), ?_, ?_, ?_, ?_⟩
  · have e := form1 (g := g) (A := List.replicate k 48 ++ 48 :: A) (B := B ++ List.replicate k 48) hg (by rw [dgs_app, hZ, hA']; rfl) (by rw [dgs_app, hB, hZ]; rfl) (by simp) (by simp; omega)
    rw [e]
    congr 1
    have e1 : ((List.replicate k (48 : Int) ++ 48 :: A) ++ (B ++ List.replicate k 48)).map (· - 48) = List.replicate k 0 ++ ((48 :: A ++ B).map (· - 48) ++ List.replicate k 0) := by
      simp
    have e2 : (B ++ List.replicate k (48 : Int)).length = B.length + k := by simp
    rw [e1, e2]
    exact can_about _ k hD (by simp; omega)
  · rintro rfl
    simp
  · exact (canS_ok _ _ _ hD.zero (by simp; omega)).2.1
  · have := (canS_ok (decide (g = 45)) _ B.length hD.zero (by simp; omega)).2.2.2.2
    simp at this
    simp
    omega
  · have := (canS_ok (decide (g = 45)) _ 0 hD.zero (by simp)).2.2.2.2
    simp at this
    simp
    omega
end Go.Proofs.YtgaegajcejpmdaaGreatDoor.Dc
namespace Go.Proofs.YtgaegajcejpmdaaGreatDoor.Dc
set_option linter.unusedVariables false
set_option linter.unusedSimpArgs false

/-- The digits of a number as bytes, as numbers. -/
def ddS (u : Nat) : List Int := (Lib.decDigits u).map fun c => (c.toNat : Int)
theorem dd_small {u : Nat} (h : u < 10) : ddS u = [48 + (u : Int)] := by
  unfold ddS
  rw [Lib.decDigits, dif_pos h]
  simp
  omega
theorem dd_big {u : Nat} (h : ¬ u < 10) : ddS u = ddS (u / 10) ++ [48 + ((u % 10 : Nat) : Int)] := by
  unfold ddS
  rw [Lib.decDigits, dif_neg h]
  simp
  omega
theorem dd_ok : ∀ (f u : Nat), u < 10 ^ (f + 1) → dgs (ddS u) = true ∧ ddS u ≠ [] ∧ dval ((ddS u).map (· - 48)) = u ∧ (ddS u).length ≤ f + 1
  | 0, u, h => by
    have h' : u < 10 := by simpa using h
    rw [dd_small h']
    refine ⟨?_, by simp, ?_, by simp⟩
    · unfold dgs
      simp
      omega
    · simp [dval]
      omega
  | f + 1, u, h => by
    by_cases h' : u < 10
    · rw [dd_small h']
      refine ⟨?_, by simp, ?_, by simp⟩
      · unfold dgs
        simp
        omega
      · simp [dval]
        omega
    · have hd : u / 10 < 10 ^ (f + 1) := by
        have : 10 ^ (f + 1 + 1) = 10 ^ (f + 1) * 10 := Nat.pow_succ ..
        omega
      obtain ⟨i1, i2, i3, i4⟩ := dd_ok f (u / 10) hd
      rw [dd_big h']
      refine ⟨?_, by simp, ?_, by simp; omega⟩
      · rw [dgs_app, i1]
        unfold dgs
        simp
        omega
      · rw [List.map_append, List.map_cons, List.map_nil, dval_snoc, i3]
        omega
theorem sg_digit {l : List Int} (h : dgs l = true) (hn : l ≠ []) : sgS l = (false, l) := by
  cases l with
  | nil => exact absurd rfl hn
  | cons c l =>
    have h1 : 48 ≤ c ∧ c ≤ 57 := by
      unfold dgs at h
      simp at h
      exact h.1
    rw [sgS, if_neg (by omega), if_neg (by omega)]
theorem form3 {A : List Int} (hA : dgs A = true) (hn : A ≠ []) (hl : A.length ≤ 4096) : parS A = .ok (canS false (0 :: A.map (· - 48)) 0) := by
  rw [par_cut, sg_digit hA hn]
  dsimp only
  rw [ct_np hA, if_neg (by omega)]
  dsimp only
  rw [if_neg (fun q => hn q.1), if_pos (by rw [List.append_nil]; exact hA)]
  simp
theorem par_itoa (n : Int) (h0 : -9223372036854775808 ≤ n) (h1 : n ≤ 9223372036854775807) : parS ((Lib.itoa n).map fun c => (c.toNat : Int)) = .ok (inS n) := by
  have hb : n.natAbs < 10 ^ 20 := by
    have : (10 : Nat) ^ 20 = 100000000000000000000 := by decide
    omega
  have hb' : n.natAbs < 10 ^ (19 + 1) := hb
  obtain ⟨i1, i2, i3, i4⟩ := dd_ok 19 n.natAbs hb'
  have hin := in_ok n hb
  have key : ∀ neg : Bool, (if neg = true then -(n.natAbs : Int) else (n.natAbs : Int)) = n → canS neg (0 :: (ddS n.natAbs).map (· - 48)) 0 = inS n := by
    intro neg hv
    have hd := (dgs_dg i1).zero
    have k := canS_ok neg _ 0 hd (by simp)
    refine nm_uniq (S := 0) k.1 hin.1 k.2.1 (by rw [hin.2.1]; exact Nat.le_refl _) ?_
    rw [canS_nv _ _ _ hd (by simp), hin.2.2, dval_zero', i3]
    exact hv
  unfold Lib.itoa
  by_cases hneg : n < 0
  · rw [if_pos hneg, List.map_cons]
    have e : ((45 : UInt8).toNat : Int) = 45 := rfl
    rw [e]
    show parS (45 :: ddS n.natAbs) = _
    rw [form2 (g := 45) (.inr rfl) i1 i2 (by omega)]
    congr 1
    exact key true (by simp; omega)
  · rw [if_neg hneg]
    have e : n.toNat = n.natAbs := by omega
    rw [e]
    show parS (ddS n.natAbs) = _
    rw [form3 i1 i2 (by omega)]
    congr 1
    exact key false (by simp; omega)
end Go.Proofs.YtgaegajcejpmdaaGreatDoor.Dc
