/- The reference's words and letters against the program's: plain facts on rows of bytes. -/
import Derived.Test.YtpghlafkkcffgaaDoorColMath
namespace Go.Proofs.YtpghlafkkcffgaaDoor
set_option linter.unusedVariables false

def wd : List Int → List Int → List (List Int)
  | [], cur => if cur.length = 0 then [] else [cur]
  | c :: l, cur => if isWhite c = true then (if cur.length = 0 then wd l [] else cur :: wd l []) else wd l (cur ++ [c])
def join : List (List Int) → List Int
  | [] => []
  | [w] => w
  | w :: v :: ws => w ++ 32 :: join (v :: ws)
theorem join_snoc (D : List (List Int)) (h : D ≠ []) (w : List Int) : join (D ++ [w]) = join D ++ 32 :: w := by
  induction D with
  | nil => exact absurd rfl h
  | cons a D ih =>
    cases D with
    | nil => simp [join]
    | cons b D =>
      have := ih (by simp)
      simp only [List.cons_append, join] at this ⊢
      rw [this]
      simp
theorem join_more (D : List (List Int)) (cur : List Int) (c : Int) : join (D ++ [cur]) ++ [c] = join (D ++ [cur ++ [c]]) := by
  by_cases h : D = []
  · subst h; rfl
  · rw [join_snoc D h, join_snoc D h]; simp
theorem join_pos (D : List (List Int)) (h : ∀ w ∈ D, 0 < w.length) (hd : D ≠ []) : 0 < (join D).length := by
  cases D with
  | nil => exact absurd rfl hd
  | cons a D =>
    have ha := h a (by simp)
    cases D with
    | nil => exact ha
    | cons b D => simp only [join, List.length_append]; omega
theorem col_wd (l : List Int) : (∀ D, (∀ w ∈ D, 0 < w.length) → col l (join D) true = join (D ++ wd l [])) ∧
    (∀ D cur, (∀ w ∈ D, 0 < w.length) → 0 < cur.length → col l (join (D ++ [cur])) false = join (D ++ wd l cur)) := by
  induction l with
  | nil =>
    refine ⟨fun D hD => by simp [col, wd], fun D cur hD hc => ?_⟩
    simp only [col, wd]
    rw [if_neg (by omega)]
  | cons c l ih =>
    obtain ⟨ihA, ihB⟩ := ih
    refine ⟨fun D hD => ?_, fun D cur hD hc => ?_⟩
    · simp only [col, wd]
      by_cases hw : isWhite c = true
      · rw [if_pos hw, if_pos hw, if_pos (show ([] : List Int).length = 0 from rfl)]
        exact ihA D hD
      · rw [if_neg hw, if_neg hw]
        by_cases hd : D = []
        · subst hd
          rw [if_neg (by simp [join])]
          exact ihB [] [c] (by simp) (by simp)
        · rw [if_pos ⟨trivial, join_pos D hD hd⟩]
          have := ihB D [c] hD (by simp)
          rw [join_snoc D hd] at this
          exact this
    · simp only [col, wd]
      by_cases hw : isWhite c = true
      · rw [if_pos hw, if_pos hw, if_neg (by omega)]
        have := ihA (D ++ [cur]) (by intro w hw; rcases List.mem_append.1 hw with h | h; exact hD w h; simp at h; subst h; exact hc)
        rw [this]; simp
      · rw [if_neg hw, if_neg hw, if_neg (by simp)]
        rw [join_more]
        exact ihB D (cur ++ [c]) hD (by simp)
theorem col_join (l : List Int) : col l [] false = join (wd l []) := by
  have h := (col_wd l).1 [] (by simp)
  have e : ∀ l : List Int, col l [] true = col l [] false := by
    intro l
    cases l with
    | nil => rfl
    | cons c l => simp [col]
  rw [← e]
  simpa [join] using h
theorem wd_ok (l : List Int) : ∀ cur, (∀ x ∈ cur, ¬ x = 32) → ∀ w ∈ wd l cur, 0 < w.length ∧ ∀ x ∈ w, ¬ x = 32 := by
  induction l with
  | nil =>
    intro cur hc w hw
    simp only [wd] at hw
    split at hw
    · simp at hw
    · simp at hw; subst hw; exact ⟨by omega, hc⟩
  | cons c l ih =>
    intro cur hc w hw
    simp only [wd] at hw
    split at hw
    · split at hw
      · exact ih [] (by simp) w hw
      · rcases List.mem_cons.1 hw with rfl | h
        · exact ⟨by omega, hc⟩
        · exact ih [] (by simp) w h
    · rename_i hwh
      refine ih (cur ++ [c]) ?_ w hw
      intro x hx
      rcases List.mem_append.1 hx with h | h
      · exact hc x h
      · simp at h; subst h
        intro h32; subst h32
        exact hwh (by decide)
theorem spl_word (w : List Int) (h : ∀ x ∈ w, ¬ x = 32) : spl w = [w] := by
  induction w with
  | nil => rfl
  | cons a w ih =>
    have ha := h a (by simp)
    have := ih (fun x hx => h x (by simp [hx]))
    simp only [spl, ha, if_false, this]
    rfl
theorem spl_app (w r : List Int) (h : ∀ x ∈ w, ¬ x = 32) : spl (w ++ 32 :: r) = w :: spl r := by
  induction w with
  | nil => simp [spl]
  | cons a w ih =>
    have ha := h a (by simp)
    have := ih (fun x hx => h x (by simp [hx]))
    simp only [List.cons_append, spl, ha, if_false, this]
    rfl
theorem spl_join (ws : List (List Int)) (hn : ws ≠ []) (h : ∀ w ∈ ws, ∀ x ∈ w, ¬ x = 32) : spl (join ws) = ws := by
  induction ws with
  | nil => exact absurd rfl hn
  | cons a ws ih =>
    cases ws with
    | nil => exact spl_word a (h a (by simp))
    | cons b ws =>
      simp only [join]
      rw [spl_app a _ (h a (by simp)), ih (by simp) (fun w hw => h w (by simp [hw]))]
theorem wordsOf_wd (l : List Int) : wordsOf l = (wd l []).map sb := by
  have hok := wd_ok l [] (by simp)
  unfold wordsOf words
  rw [col_join]
  by_cases h : wd l [] = []
  · rw [h]; simp [join]
  · have hp := join_pos (wd l []) (fun w hw => (hok w hw).1) h
    rw [if_neg (by omega), spl_join _ h (fun w hw => (hok w hw).2)]

def lets : Nat → List Int → Option (List Int)
  | 0, _ => some []
  | n + 1, l => if l.length = 0 then some [] else if (dec l).2 = 0 ∨ isChar (dec l).1 = false then none else (lets n (l.drop (dec l).2.toNat)).map ((dec l).1 :: ·)
theorem lets_end (n : Nat) (l : List Int) (h : l.length = 0) : lets n l = some [] := by
  cases n <;> simp [lets, h]
theorem lets_bad (n : Nat) (l : List Int) (h0 : ¬ l.length = 0) (h : (dec l).2 = 0 ∨ isChar (dec l).1 = false) : lets (n + 1) l = none := by
  simp only [lets]; rw [if_neg h0, if_pos h]
theorem lets_step (n : Nat) (l : List Int) (h0 : ¬ l.length = 0) (h : ¬ ((dec l).2 = 0 ∨ isChar (dec l).1 = false)) : lets (n + 1) l = (lets n (l.drop (dec l).2.toNat)).map ((dec l).1 :: ·) := by
  simp only [lets]; rw [if_neg h0, if_neg h]
theorem part_char (r : Int) (h : isPart r = true) : isChar r = true := by
  unfold isPart isStart at h
  unfold isChar at *
  simp only [decide_eq_true_eq] at *
  omega
theorem tok_lets (n : Nat) : ∀ l : List Int, tok n l = (match lets n l with | none => false | some ls => ls.all isPart) := by
  induction n with
  | zero => intro l; rfl
  | succ n ih =>
    intro l
    by_cases h0 : l.length = 0
    · rw [tok_end _ l h0, lets_end _ l h0]; rfl
    · by_cases hz : (dec l).2 = 0
      · rw [tok_bad n l h0 (.inl hz), lets_bad n l h0 (.inl hz)]
      · by_cases hp : isPart (dec l).1 = true
        · have hch := part_char _ hp
          rw [tok_step n l h0 (by simp [hz, hp]), lets_step n l h0 (by simp [hz, hch]), ih]
          cases lets n (l.drop (dec l).2.toNat) with
          | none => rfl
          | some ls => simp [hp]
        · have hp' : isPart (dec l).1 = false := by simpa using hp
          rw [tok_bad n l h0 (.inr hp')]
          by_cases hch : isChar (dec l).1 = true
          · rw [lets_step n l h0 (by simp [hz, hch])]
            cases lets n (l.drop (dec l).2.toNat) with
            | none => rfl
            | some ls => simp [hp']
          · rw [lets_bad n l h0 (.inr (by simpa using hch))]
theorem lets_head (n : Nat) (l ls : List Int) (hn : l.length ≤ n) (h : lets n l = some ls) : (ls.length = 0 ↔ l.length = 0) ∧ (0 < ls.length → ls.getD 0 0 = (dec l).1) := by
  by_cases h0 : l.length = 0
  · rw [lets_end n l h0] at h
    simp at h; subst h
    exact ⟨by simp [h0], by simp⟩
  · obtain ⟨n, rfl⟩ : ∃ m, n = m + 1 := ⟨n - 1, by omega⟩
    by_cases hb : (dec l).2 = 0 ∨ isChar (dec l).1 = false
    · rw [lets_bad n l h0 hb] at h; cases h
    · rw [lets_step n l h0 hb] at h
      cases hx : lets n (l.drop (dec l).2.toNat) with
      | none => rw [hx] at h; cases h
      | some t =>
        rw [hx] at h
        simp at h; subst h
        exact ⟨by simp [h0], by simp⟩
theorem lets_le (n : Nat) : ∀ l ls : List Int, lets n l = some ls → ls.length ≤ n := by
  induction n with
  | zero => intro l ls h; simp [lets] at h; subst h; simp
  | succ n ih =>
    intro l ls h
    by_cases h0 : l.length = 0
    · rw [lets_end _ l h0] at h; simp at h; subst h; simp
    · by_cases hb : (dec l).2 = 0 ∨ isChar (dec l).1 = false
      · rw [lets_bad n l h0 hb] at h; cases h
      · rw [lets_step n l h0 hb] at h
        cases hx : lets n (l.drop (dec l).2.toNat) with
        | none => rw [hx] at h; cases h
        | some t =>
          rw [hx] at h
          simp at h; subst h
          have := ih _ _ hx
          simp; omega
theorem tokB_none {l : List Int} (h : lets l.length l = none) : tokB l = false := by
  unfold tokB; rw [tok_lets, h]; rfl
theorem tokB_some {l ls : List Int} (h : lets l.length l = some ls) : tokB l = (ls.all isPart && decide (0 < ls.length)) := by
  have := (lets_head l.length l ls (Nat.le_refl _) h).1
  unfold tokB; rw [tok_lets, h]
  show (ls.all isPart && _) = _
  congr 1
  rw [Bool.eq_iff_iff]; simp; omega
end Go.Proofs.YtpghlafkkcffgaaDoor
