/- Letters put one behind the other: their bytes, how many letters these have, whether they are right. -/
import Derived.Test.YtpghlafkkcffgaaRound
import Derived.Test.YtpghlafkkcffgaaSpec2
namespace Go.Proofs.Ytpghlafkkcffgaa
set_option linter.unusedVariables false

def encs : List Int → List Int
  | [] => []
  | r :: l => enc r ++ encs l
def wants : List Int → List Int
  | [] => []
  | r :: l => if wid r = 0 then wants l else r :: wants l

theorem encs_app (a b : List Int) : encs (a ++ b) = encs a ++ encs b := by
  induction a with
  | nil => rfl
  | cons r l ih => simp [encs, ih]
theorem wants_app (a b : List Int) : wants (a ++ b) = wants a ++ wants b := by
  induction a with
  | nil => rfl
  | cons r l ih =>
    simp only [List.cons_append, wants, ih]
    split <;> simp
theorem encs_wants (l : List Int) : encs (wants l) = encs l := by
  induction l with
  | nil => rfl
  | cons r l ih =>
    simp only [wants]
    split
    · rename_i h
      rw [ih, encs, enc0 h]; rfl
    · rw [encs, ih, encs]
theorem wants_ok (l : List Int) : ∀ r ∈ wants l, ¬ wid r = 0 := by
  induction l with
  | nil => simp [wants]
  | cons r l ih =>
    simp only [wants]
    split
    · exact ih
    · rename_i h
      intro x hx
      rcases List.mem_cons.1 hx with rfl | hx
      · exact h
      · exact ih x hx
theorem encs_bd (l : List Int) : ∀ i, 0 ≤ (encs l).getD i 0 ∧ (encs l).getD i 0 < 256 := by
  induction l with
  | nil => exact bd_nil
  | cons r l ih =>
    intro i
    simp only [encs]
    rw [List.getD_eq_getElem?_getD]
    rcases Nat.lt_or_ge i (enc r).length with h | h
    · rw [List.getElem?_append_left h, ← List.getD_eq_getElem?_getD]; exact enc_bd r i
    · rw [List.getElem?_append_right h, ← List.getD_eq_getElem?_getD]; exact ih _
theorem enc_le (r : Int) : (enc r).length ≤ 4 := by
  have := enc_len r
  have := wid_cases r
  omega
theorem encs_le (l : List Int) : (encs l).length ≤ 4 * l.length := by
  induction l with
  | nil => simp [encs]
  | cons r l ih => simp only [encs, List.length_append, List.length_cons]; have := enc_le r; omega
theorem wants_le (l : List Int) : (wants l).length ≤ l.length := by
  induction l with
  | nil => simp [wants]
  | cons r l ih =>
    simp only [wants, List.length_cons]
    split
    · omega
    · simp; omega
theorem dec_encs (r : Int) (l : List Int) (h : ¬ wid r = 0) : dec (encs (r :: l)) = (r, wid r) := dec_enc r (encs l) h
theorem drop_encs (r : Int) (l : List Int) : (encs (r :: l)).drop (wid r).toNat = encs l := by
  have := enc_len r
  rw [encs, ← this, Int.toNat_natCast, List.drop_left]
theorem encs_pos (r : Int) (l : List Int) (h : ¬ wid r = 0) : ¬ (encs (r :: l)).length = 0 := by
  have := enc_len r
  have := wid_cases r
  simp only [encs, List.length_append]
  omega
theorem cnt_encs (l : List Int) : ∀ n, (∀ r ∈ l, ¬ wid r = 0) → (encs l).length ≤ n → cnt n (encs l) = l.length := by
  induction l with
  | nil => intro n _ _; exact cnt_end n _ rfl
  | cons r l ih =>
    intro n hok hn
    have h := hok r (by simp)
    have hp := encs_pos r l h
    have hl := enc_len r
    have hc := wid_cases r
    obtain ⟨n, rfl⟩ : ∃ m, n = m + 1 := ⟨n - 1, by omega⟩
    rw [cnt_step n _ hp, dec_encs r l h]
    have e : max (r, wid r).2 1 = wid r := by show max (wid r) 1 = wid r; omega
    rw [e, drop_encs, ih n (fun x hx => hok x (by simp [hx])) ?_]
    · simp; omega
    · simp only [encs, List.length_append] at hn; omega
theorem rgt_encs (l : List Int) : ∀ n, (∀ r ∈ l, ¬ wid r = 0) → (encs l).length ≤ n → (rgt n (encs l)).2 = l.all isChar := by
  induction l with
  | nil => intro n _ _; rw [rgt_end n _ rfl]; rfl
  | cons r l ih =>
    intro n hok hn
    have h := hok r (by simp)
    have hp := encs_pos r l h
    have hl := enc_len r
    have hc := wid_cases r
    obtain ⟨n, rfl⟩ : ∃ m, n = m + 1 := ⟨n - 1, by omega⟩
    by_cases hch : isChar r = true
    · rw [rgt_step n _ hp (by rw [dec_encs r l h]; simp [h, hch]), dec_encs r l h]
      show (rgt n ((encs (r :: l)).drop (wid r).toNat)).2 = _
      rw [drop_encs, ih n (fun x hx => hok x (by simp [hx])) (by simp only [encs, List.length_append] at hn; omega)]
      simp [hch]
    · have hch' : isChar r = false := by simpa using hch
      rw [rgt_bad n _ hp (.inr (by rw [dec_encs r l h]; exact hch'))]
      simp [hch']
theorem encs_some (l : List Int) (h : ∀ r ∈ l, ¬ wid r = 0) (hl : 0 < l.length) : 0 < (encs l).length := by
  cases l with
  | nil => simp at hl
  | cons r l => have := encs_pos r l (h r (by simp)); omega
theorem getD_mem (l : List Int) (j : Nat) (h : j < l.length) : l.getD j 0 ∈ l := by
  rw [List.getD_eq_getElem?_getD, List.getElem?_eq_getElem h]
  exact List.getElem_mem h
theorem drop_to (l : List Int) (j : Nat) (h : j < l.length) : (encs l).drop (encs (l.take j)).length = encs (l.getD j 0 :: l.drop (j + 1)) := by
  have e : encs l = encs (l.take j) ++ encs (l.drop j) := by rw [← encs_app, List.take_append_drop]
  rw [e, List.drop_left, List.drop_eq_getElem_cons h]
  simp [List.getD_eq_getElem?_getD, h]
theorem take_lt (l : List Int) (j : Nat) (hok : ∀ r ∈ l, ¬ wid r = 0) (h : j < l.length) : (encs (l.take j)).length < (encs l).length := by
  have e : encs l = encs (l.take j) ++ encs (l.drop j) := by rw [← encs_app, List.take_append_drop]
  have p := encs_some (l.drop j) (fun r hr => hok r (List.mem_of_mem_drop hr)) (by simp; omega)
  rw [e, List.length_append]
  omega
theorem take_len (l : List Int) (j : Nat) (h : j < l.length) : (encs (l.take (j + 1))).length = (encs (l.take j)).length + (enc (l.getD j 0)).length := by
  have : l.take (j + 1) = l.take j ++ [l.getD j 0] := by
    rw [List.take_succ_eq_append_getElem h]
    simp [List.getD_eq_getElem?_getD, h]
  rw [this, encs_app, List.length_append]
  simp [encs]
end Go.Proofs.Ytpghlafkkcffgaa
