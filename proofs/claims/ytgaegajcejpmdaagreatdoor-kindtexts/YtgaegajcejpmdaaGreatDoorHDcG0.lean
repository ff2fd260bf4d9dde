/- The text of a whole number, read: plain. -/
import Derived.Test.YtgaegajcejpmdaaGreatDoorHJ6
import Derived.Lib.ItoaNum
namespace Go.Proofs.YtgaegajcejpmdaaGreatDoor.Dc
set_option linter.unusedVariables false
set_option linter.unusedSimpArgs false

/-- The digits of a number as bytes, as numbers. -/
def ddS (u : Nat) : List Int := (Lib.decDigits u).map fun c => (c.toNat : Int)
theorem dd_small {u : Nat} (h : u < 10) : ddS u = [48 + (u : Int)] := by
  unfold ddS
  rw [Lib.decDigits, dif_pos h]
  simp
  omega
theorem dd_big {u : Nat} (h : ¬ u < 10) : ddS u = ddS (u / 10) ++ [48 + ((u % 10 : Nat) : Int)] := by
  unfold ddS
  rw [Lib.decDigits, dif_neg h]
  simp
  omega
theorem dd_ok : ∀ (f u : Nat), u < 10 ^ (f + 1) → dgs (ddS u) = true ∧ ddS u ≠ [] ∧ dval ((ddS u).map (· - 48)) = u ∧ (ddS u).length ≤ f + 1
  | 0, u, h => by
    have h' : u < 10 := by simpa using h
    rw [dd_small h']
    refine ⟨?_, by simp, ?_, by simp⟩
    · unfold dgs
      simp
      omega
    · simp [dval]
      omega
  | f + 1, u, h => by
    by_cases h' : u < 10
    · rw [dd_small h']
      refine ⟨?_, by simp, ?_, by simp⟩
      · unfold dgs
        simp
        omega
      · simp [dval]
        omega
    · have hd : u / 10 < 10 ^ (f + 1) := by
        have : 10 ^ (f + 1 + 1) = 10 ^ (f + 1) * 10 := Nat.pow_succ ..
        omega
      obtain ⟨i1, i2, i3, i4⟩ := dd_ok f (u / 10) hd
      rw [dd_big h']
      refine ⟨?_, by simp, ?_, by simp; omega⟩
      · rw [dgs_app, i1]
        unfold dgs
        simp
        omega
      · rw [List.map_append, List.map_cons, List.map_nil, dval_snoc, i3]
        omega
theorem sg_digit {l : List Int} (h : dgs l = true) (hn : l ≠ []) : sgS l = (false, l) := by
  cases l with
  | nil => exact absurd rfl hn
  | cons c l =>
    have h1 : 48 ≤ c ∧ c ≤ 57 := by
      unfold dgs at h
      simp at h
      exact h.1
    rw [sgS, if_neg (by omega), if_neg (by omega)]
theorem form3 {A : List Int} (hA : dgs A = true) (hn : A ≠ []) (hl : A.length ≤ 4096) : parS A = .ok (canS false (0 :: A.map (· - 48)) 0) := by
  rw [par_cut, sg_digit hA hn]
  dsimp only
  rw [ct_np hA, if_neg (by omega)]
  dsimp only
  rw [if_neg (fun q => hn q.1), if_pos (by rw [List.append_nil]; exact hA)]
  simp
theorem par_itoa (n : Int) (h0 : -9223372036854775808 ≤ n) (h1 : n ≤ 9223372036854775807) : parS ((Lib.itoa n).map fun c => (c.toNat : Int)) = .ok (inS n) := by
  have hb : n.natAbs < 10 ^ 20 := by
    have : (10 : Nat) ^ 20 = 100000000000000000000 := by decide
    omega
  have hb' : n.natAbs < 10 ^ (19 + 1) := hb
  obtain ⟨i1, i2, i3, i4⟩ := dd_ok 19 n.natAbs hb'
  have hin := in_ok n hb
  have key : ∀ neg : Bool, (if neg = true then -(n.natAbs : Int) else (n.natAbs : Int)) = n → canS neg (0 :: (ddS n.natAbs).map (· - 48)) 0 = inS n := by
    intro neg hv
    have hd := (dgs_dg i1).zero
    have k := canS_ok neg _ 0 hd (by simp)
    refine nm_uniq (S := 0) k.1 hin.1 k.2.1 (by rw [hin.2.1]; exact Nat.le_refl _) ?_
    rw [canS_nv _ _ _ hd (by simp), hin.2.2, dval_zero', i3]
    exact hv
  unfold Lib.itoa
  by_cases hneg : n < 0
  · rw [if_pos hneg, List.map_cons]
    have e : ((45 : UInt8).toNat : Int) = 45 := rfl
    rw [e]
    show parS (45 :: ddS n.natAbs) = _
    rw [form2 (g := 45) (.inr rfl) i1 i2 (by omega)]
    congr 1
    exact key true (by simp; omega)
  · rw [if_neg hneg]
    have e : n.toNat = n.natAbs := by omega
    rw [e]
    show parS (ddS n.natAbs) = _
    rw [form3 i1 i2 (by omega)]
    congr 1
    exact key false (by simp; omega)
end Go.Proofs.YtgaegajcejpmdaaGreatDoor.Dc
