/- Names and parts, joined: what holds of rows of bytes put one behind the other. -/
import Derived.Test.YtpghlafkkcffgaaShare
namespace Go.Proofs.Ytpghlafkkcffgaa
set_option linter.unusedVariables false

theorem getD_left (S T : List Int) (i : Nat) (h : i < S.length) : (S ++ T).getD i 0 = S.getD i 0 := by
  rw [List.getD_eq_getElem?_getD, List.getElem?_append_left h, ← List.getD_eq_getElem?_getD]
theorem getD_mid (S T : List Int) (c : Int) : (S ++ c :: T).getD S.length 0 = c := by
  simp [List.getD_eq_getElem?_getD]

theorem dec_app (S T : List Int) (h : ¬ (dec S).2 = 0) : dec (S ++ T) = dec S := by
  have hl : ¬ S.length = 0 := by
    intro h0
    apply h
    unfold dec
    rw [if_pos h0]
  have hl' : ¬ (S ++ T).length = 0 := by simp; intro h0; exact absurd (by simp [h0]) hl
  have g0 := getD_left S T 0 (by omega)
  unfold dec at h ⊢
  rw [if_neg hl] at h
  rw [if_neg hl', if_neg hl, g0]
  by_cases c0 : S.getD 0 0 < 128
  · rw [if_pos c0, if_pos c0]
  · rw [if_neg c0] at h
    rw [if_neg c0, if_neg c0]
    by_cases c1 : S.getD 0 0 < 192
    · rw [if_pos c1, if_pos c1]
    · rw [if_neg c1] at h
      rw [if_neg c1, if_neg c1]
      by_cases c2 : S.getD 0 0 < 224
      · rw [if_pos c2] at h
        rw [if_pos c2, if_pos c2]
        by_cases l2 : 2 ≤ S.length
        · rw [if_pos l2, if_pos (by simp; omega), getD_left S T 1 (by omega)]
        · rw [if_neg l2] at h; exact absurd rfl h
      · rw [if_neg c2] at h
        rw [if_neg c2, if_neg c2]
        by_cases c3 : S.getD 0 0 < 240
        · rw [if_pos c3] at h
          rw [if_pos c3, if_pos c3]
          by_cases l3 : 3 ≤ S.length
          · rw [if_pos l3, if_pos (by simp; omega), getD_left S T 1 (by omega), getD_left S T 2 (by omega)]
          · rw [if_neg l3] at h; exact absurd rfl h
        · rw [if_neg c3] at h
          rw [if_neg c3, if_neg c3]
          by_cases c4 : S.getD 0 0 < 248
          · rw [if_pos c4] at h
            rw [if_pos c4, if_pos c4]
            by_cases l4 : 4 ≤ S.length
            · rw [if_pos l4, if_pos (by simp; omega), getD_left S T 1 (by omega), getD_left S T 2 (by omega), getD_left S T 3 (by omega)]
            · rw [if_neg l4] at h; exact absurd rfl h
          · rw [if_neg c4, if_neg c4]

theorem fin_two (r n : Int) : (fin r n).2 = n ∨ (fin r n).2 = 0 := by
  unfold fin; split <;> simp
theorem dec_span (L : List Int) (i : Nat) (h1 : 1 ≤ i) (h2 : (i : Int) < (dec L).2) : isTl (L.getD i 0) = true := by
  unfold dec at h2
  by_cases hl : L.length = 0
  · rw [if_pos hl] at h2; simp at h2; omega
  rw [if_neg hl] at h2
  by_cases c0 : L.getD 0 0 < 128
  · rw [if_pos c0] at h2; simp at h2; omega
  rw [if_neg c0] at h2
  by_cases c1 : L.getD 0 0 < 192
  · rw [if_pos c1] at h2; simp at h2; omega
  rw [if_neg c1] at h2
  by_cases c2 : L.getD 0 0 < 224
  · rw [if_pos c2] at h2
    by_cases l2 : 2 ≤ L.length
    · rw [if_pos l2] at h2
      unfold dec2 at h2
      by_cases t : isTl (L.getD 1 0) = true
      · rw [if_pos t] at h2
        rcases fin_two (L.getD 0 0 % 32 * 64 + L.getD 1 0 % 64) 2 with h | h
        · rw [h] at h2
          have : i = 1 := by omega
          subst this; exact t
        · rw [h] at h2; omega
      · rw [if_neg t] at h2; simp at h2; omega
    · rw [if_neg l2] at h2; simp at h2; omega
  rw [if_neg c2] at h2
  by_cases c3 : L.getD 0 0 < 240
  · rw [if_pos c3] at h2
    by_cases l3 : 3 ≤ L.length
    · rw [if_pos l3] at h2
      unfold dec3 at h2
      by_cases t : isTl (L.getD 1 0) = true ∧ isTl (L.getD 2 0) = true
      · rw [if_pos t] at h2
        rcases fin_two ((L.getD 0 0 % 16 * 64 + L.getD 1 0 % 64) * 64 + L.getD 2 0 % 64) 3 with h | h
        · rw [h] at h2
          rcases (by omega : i = 1 ∨ i = 2) with rfl | rfl
          · exact t.1
          · exact t.2
        · rw [h] at h2; omega
      · rw [if_neg t] at h2; simp at h2; omega
    · rw [if_neg l3] at h2; simp at h2; omega
  rw [if_neg c3] at h2
  by_cases c4 : L.getD 0 0 < 248
  · rw [if_pos c4] at h2
    by_cases l4 : 4 ≤ L.length
    · rw [if_pos l4] at h2
      unfold dec4 at h2
      by_cases t : isTl (L.getD 1 0) = true ∧ isTl (L.getD 2 0) = true ∧ isTl (L.getD 3 0) = true
      · rw [if_pos t] at h2
        rcases fin_two (((L.getD 0 0 % 8 * 64 + L.getD 1 0 % 64) * 64 + L.getD 2 0 % 64) * 64 + L.getD 3 0 % 64) 4 with h | h
        · rw [h] at h2
          rcases (by omega : i = 1 ∨ i = 2 ∨ i = 3) with rfl | rfl | rfl
          · exact t.1
          · exact t.2.1
          · exact t.2.2
        · rw [h] at h2; omega
      · rw [if_neg t] at h2; simp at h2; omega
    · rw [if_neg l4] at h2; simp at h2; omega
  · rw [if_neg c4] at h2; simp at h2; omega

theorem tok_fuel : ∀ (n m : Nat) (l : List Int), l.length ≤ n → l.length ≤ m → tok n l = tok m l := by
  intro n
  induction n with
  | zero =>
    intro m l h1 h2
    have : l.length = 0 := by omega
    rw [tok_end 0 l this, tok_end m l this]
  | succ n ih =>
    intro m l h1 h2
    by_cases h0 : l.length = 0
    · rw [tok_end _ l h0, tok_end m l h0]
    · obtain ⟨m, rfl⟩ : ∃ k, m = k + 1 := ⟨m - 1, by omega⟩
      by_cases hb : (dec l).2 = 0 ∨ isPart (dec l).1 = false
      · rw [tok_bad n l h0 hb, tok_bad m l h0 hb]
      · have hd := dec_bd l
        have h3 : ¬ (dec l).2 = 0 := fun h => hb (.inl h)
        rw [tok_step n l h0 hb, tok_step m l h0 hb]
        exact ih m _ (by simp; omega) (by simp; omega)
theorem tok_app : ∀ (n : Nat) (S T : List Int), S.length ≤ n → tok n S = true → tok (n + T.length) (S ++ T) = tok T.length T := by
  intro n
  induction n with
  | zero =>
    intro S T h1 h2
    have : S = [] := List.eq_nil_of_length_eq_zero (by omega)
    subst this
    simp
  | succ n ih =>
    intro S T h1 h2
    by_cases h0 : S.length = 0
    · have : S = [] := List.eq_nil_of_length_eq_zero h0
      subst this
      exact tok_fuel _ _ T (by omega) (Nat.le_refl _)
    · by_cases hb : (dec S).2 = 0 ∨ isPart (dec S).1 = false
      · rw [tok_bad n S h0 hb] at h2; cases h2
      · have hd := dec_bd S
        have h3 : ¬ (dec S).2 = 0 := fun h => hb (.inl h)
        rw [tok_step n S h0 hb] at h2
        have e := dec_app S T h3
        have hle : (dec S).2.toNat ≤ S.length := by omega
        rw [show n + 1 + T.length = (n + T.length) + 1 from by omega, tok_step _ (S ++ T) (by simp; intro h; exact absurd (by simp [h]) h0) (by rw [e]; exact hb), e, List.drop_append_of_le_length hle]
        exact ih _ T (by simp; omega) h2
theorem tok_sep (c : Int) (h0 : 0 ≤ c) (h1 : c < 128) (hp : isPart c = false) : ∀ (n : Nat) (S T : List Int), (S ++ c :: T).length ≤ n → tok n (S ++ c :: T) = false := by
  intro n
  induction n with
  | zero => intro S T h; simp at h
  | succ n ih =>
    intro S T h
    have hl : ¬ (S ++ c :: T).length = 0 := by simp
    by_cases hb : (dec (S ++ c :: T)).2 = 0 ∨ isPart (dec (S ++ c :: T)).1 = false
    · exact tok_bad n _ hl hb
    · have h3 : ¬ (dec (S ++ c :: T)).2 = 0 := fun h => hb (.inl h)
      have hd := dec_bd (S ++ c :: T)
      rw [tok_step n _ hl hb]
      have hle : (dec (S ++ c :: T)).2.toNat ≤ S.length := by
        rcases Nat.lt_or_ge S.length (dec (S ++ c :: T)).2.toNat with g | g
        · exfalso
          rcases Nat.eq_zero_or_pos S.length with hs | hs
          · have : S = [] := List.eq_nil_of_length_eq_zero hs
            subst this
            apply hb
            right
            have : dec ([] ++ c :: T) = (c, 1) := by
              unfold dec
              rw [if_neg (by simp), if_pos (by simpa using h1)]
              rfl
            rw [this]; exact hp
          · have ht := dec_span (S ++ c :: T) S.length hs (by omega)
            rw [getD_mid] at ht
            unfold isTl at ht
            simp at ht
            omega
        · exact g
      rw [List.drop_append_of_le_length hle]
      exact ih _ T (by simp at h ⊢; omega)

theorem tokB_app {S T : List Int} (h : tokB S = true) (g : tokB T = true) : tokB (S ++ T) = true := by
  unfold tokB at *
  simp only [Bool.and_eq_true, decide_eq_true_eq] at *
  refine ⟨?_, by simp; omega⟩
  rw [List.length_append, tok_app S.length S T (Nat.le_refl _) h.1]
  exact g.1
theorem tokB_dec {S : List Int} (h : tokB S = true) : ¬ (dec S).2 = 0 := by
  unfold tokB at h
  simp only [Bool.and_eq_true, decide_eq_true_eq] at h
  intro h0
  obtain ⟨n, hn⟩ : ∃ n, S.length = n + 1 := ⟨S.length - 1, by omega⟩
  have := h.1
  rw [hn, tok_bad n S (by omega) (.inl h0)] at this
  cases this
theorem nameB_app {S T : List Int} (h : nameB S = true) (g : tokB T = true) : nameB (S ++ T) = true := by
  unfold nameB at *
  simp only [Bool.and_eq_true] at *
  exact ⟨by rw [dec_app S T (tokB_dec h.2)]; exact h.1, tokB_app h.2 g⟩
theorem tokB_colon {T : List Int} (g : tokB T = true) : tokB (58 :: T) = true := by
  have : tokB ([58] ++ T) = true := tokB_app (by decide +kernel) g
  exact this
theorem nc_tok {T : List Int} (g : ncB T = true) : tokB T = true := by
  unfold ncB nameB at g
  simp only [Bool.and_eq_true] at g
  exact g.1.2
theorem nc_name {T : List Int} (g : ncB T = true) : nameB T = true := by
  unfold ncB at g
  simp only [Bool.and_eq_true] at g
  exact g.1
theorem nameB_sep (S T : List Int) (c : Int) (h0 : 0 ≤ c) (h1 : c < 128) (hp : isPart c = false) : nameB (S ++ c :: T) = false := by
  unfold nameB tokB
  rw [tok_sep c h0 h1 hp _ S T (Nat.le_refl _)]
  simp
theorem nc_pos {T : List Int} (g : ncB T = true) : 0 < T.length := by
  have := nc_tok g
  unfold tokB at this
  simp only [Bool.and_eq_true, decide_eq_true_eq] at this
  exact this.2
theorem ix_at (l : List Int) (k : Nat) (h : ix l = (k : Int)) : l = l.take k ++ 58 :: l.drop (k + 1) := by
  induction l generalizing k with
  | nil => simp [ix] at h
  | cons b l ih =>
    simp only [ix] at h
    by_cases hb : b = 58
    · rw [if_pos hb] at h
      have : k = 0 := by omega
      subst this
      simp [hb]
    · rw [if_neg hb] at h
      by_cases h2 : ix l = -1
      · rw [if_pos h2] at h; omega
      · rw [if_neg h2] at h
        obtain ⟨k, rfl⟩ : ∃ m, k = m + 1 := ⟨k - 1, by have := ix_bd l; omega⟩
        have := ih k (by omega)
        simp only [List.take_succ_cons, List.drop_succ_cons, List.cons_append, List.cons.injEq, true_and]
        exact this
theorem nc_colon {l : List Int} (h : 0 ≤ ix l) : ncB l = false := by
  unfold ncB
  rw [decide_eq_true h]
  simp
theorem bl_app (a b : ByteArray) : bl (a ++ b) = bl a ++ bl b := by
  simp [bl]
theorem sz_app (a b : ByteArray) : (a ++ b).size = a.size + b.size := by simp
theorem bl_inj {a b : ByteArray} (h : bl a = bl b) : a = b := by
  rw [← sb_bl a, h, sb_bl]
theorem bl_cut (s : ByteArray) (k : Nat) : bl (s.extract 0 k) = (bl s).take k := by
  unfold bl
  simp [List.map_take]
theorem bl_cut_end (s : ByteArray) (k : Nat) : bl (s.extract k s.size) = (bl s).drop k := by
  unfold bl
  rw [← List.map_drop]
  congr 1
  simp
  exact List.take_of_length_le (by simp)
end Go.Proofs.Ytpghlafkkcffgaa
