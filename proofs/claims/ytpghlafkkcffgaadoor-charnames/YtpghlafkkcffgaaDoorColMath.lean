/- Blanks put together stay as they are when they are put together again. -/
import Derived.Test.YtpghlafkkcffgaaDoorRep
namespace Go.Proofs.YtpghlafkkcffgaaDoor
set_option linter.unusedVariables false

def step (st : List Int × Bool) (c : Int) : List Int × Bool :=
  if isWhite c = true then (st.1, true) else if st.2 = true ∧ 0 < st.1.length then (st.1 ++ [32, c], false) else (st.1 ++ [c], false)
theorem col_fold (l out : List Int) (g : Bool) : col l out g = (l.foldl step (out, g)).1 := by
  induction l generalizing out g with
  | nil => rfl
  | cons c l ih =>
    rw [List.foldl_cons]
    simp only [col, step]
    split
    · exact ih out true
    · split
      · exact ih _ false
      · exact ih _ false
def clean (out : List Int) : Prop := out.foldl step ([], false) = (out, false)
theorem clean_nil : clean [] := rfl
theorem clean_one {out : List Int} {c : Int} (h : clean out) (hc : isWhite c = false) : clean (out ++ [c]) := by
  unfold clean at *
  rw [List.foldl_append, h]
  simp [step, hc]
theorem clean_two {out : List Int} {c : Int} (h : clean out) (hc : isWhite c = false) (hl : 0 < out.length) : clean (out ++ [32, c]) := by
  unfold clean at *
  rw [List.foldl_append, h]
  have h32 : isWhite 32 = true := by decide
  simp [step, hc, h32, hl]
theorem clean_col (l out : List Int) (g : Bool) (h : clean out) : clean (col l out g) := by
  induction l generalizing out g with
  | nil => exact h
  | cons c l ih =>
    simp only [col]
    split
    · exact ih out true h
    · rename_i hw
      have hw' : isWhite c = false := by simpa using hw
      split
      · rename_i hg
        exact ih _ false (clean_two h hw' hg.2)
      · exact ih _ false (clean_one h hw')
theorem col_col (l : List Int) : col (col l [] false) [] false = col l [] false := by
  have := clean_col l [] false clean_nil
  unfold clean at this
  rw [col_fold (col l [] false) [] false, this]
theorem rp_white (c : Int) : isWhite (rp c) = isWhite c := by
  unfold rp
  split
  · rename_i h; rw [h]; decide
  · rfl
theorem col_rp (l out : List Int) (g : Bool) : col (l.map rp) out g = col l out g := by
  induction l generalizing out g with
  | nil => rfl
  | cons c l ih =>
    simp only [List.map_cons, col, rp_white]
    split
    · exact ih out true
    · rename_i hw
      have e : rp c = c := by unfold rp; rw [if_neg hw]
      rw [e]
      split
      · exact ih _ false
      · exact ih _ false
theorem wordsOf_col (l : List Int) : wordsOf (col l [] false) = wordsOf l := by
  unfold wordsOf
  rw [col_col]
theorem words_le (l : List Int) : (wordsOf l).length ≤ l.length + 1 := by
  unfold wordsOf
  split
  · simp
  · unfold words
    rw [List.length_map, spl_len]
    have := cs_le (col l [] false)
    have := col_len l [] false
    simp at this
    omega
end Go.Proofs.YtpghlafkkcffgaaDoor
