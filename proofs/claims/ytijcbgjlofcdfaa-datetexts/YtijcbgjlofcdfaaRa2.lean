/- What the program's fields tell is what the text tells: plain. -/
import Derived.Test.YtijcbgjlofcdfaaRa1
import Derived.Test.YtijcbgjlofcdfaaJ14
namespace Go.Proofs.Ytijcbgjlofcdfaa
set_option linter.unusedVariables false

theorem obind {α β : Type} {o : Option α} {f g : α → Option β} (h : ∀ x, o = some x → f x = g x) : o.bind f = o.bind g := by
  cases o with
  | none => rfl
  | some x => exact h x rfl
/-- A text that begins with a digit. -/
def Dig (l : List Int) : Prop := ∃ c, l.head? = some c ∧ isD c = true
theorem dig_ne {l : List Int} (h : Dig l) {c : Int} (hc : isD c = false) : l.head? ≠ some c := by
  obtain ⟨d, hd, hi⟩ := h
  intro q
  rw [hd] at q
  cases q
  rw [hi] at hc
  cases hc
theorem dig_nn {l : List Int} (h : Dig l) : l ≠ [] := by
  obtain ⟨d, hd, _⟩ := h
  rintro rfl
  cases hd
theorem zn_dig {a : Mo} {l : List Int} (h : Dig l) : gZn a l = none := by
  unfold gZn
  rw [if_neg (dig_nn h), if_neg (fun q => dig_ne h (c := 90) (by decide) (by rw [q]; rfl))]
  cases zR l with
  | none => rfl
  | some z => rw [Option.bind_some, if_neg (dig_ne h (by decide)), if_neg (dig_ne h (by decide))]
theorem drop_dig {l : List Int} {n : Nat} (h : n < dgs l) : Dig (l.drop n) := by
  have hl := dgs_len l
  have := dgs_get l n h
  rw [List.drop_eq_getElem_cons (by omega)]
  exact ⟨_, rfl, this⟩
/-- Years: with ten digits or more what is left begins with one. -/
theorem yr_bind (F : Mo → List Int → Option Mo) (hF : ∀ a l, Dig l → F a l = none) (a : Mo) (l : List Int) : ((gYr a l).bind fun x => F x.1 x.2) = (yrB l).bind fun y => F { a with y := y.1 } y.2 := by
  unfold gYr yrB
  have ht : (if l.head? = some 45 then l.tail else l) = yrK l := rfl
  simp only [ht]
  by_cases h9 : 9 < dgs (yrK l)
  · rw [if_pos (show dgs (yrK l) < 4 ∨ 9 < dgs (yrK l) ∨ (4 < dgs (yrK l) ∧ (yrK l).head? = some 48) from .inr (.inl h9))]
    have hk : dk 9 (yrK l) = 9 := by unfold dk; omega
    split
    · rw [Option.bind_some, hk]
      exact hF _ _ (drop_dig h9)
    · rfl
  · have hk : dk 9 (yrK l) = dgs (yrK l) := by unfold dk; omega
    have hnm : nmB (dgs (yrK l)) (yrK l) = some (dvl ((yrK l).take (dgs (yrK l))), (yrK l).drop (dgs (yrK l))) := by unfold nmB; rw [if_neg (by omega)]
    rw [hnm, Option.bind_some, hk]
    have hv := (dvl_bd (l := yrK l) (j := dgs (yrK l)) (Nat.le_refl _) (by omega)).1
    unfold yrV
    rw [hk]
    unfold yrOk
    rw [hk]
    by_cases h4 : dgs (yrK l) < 4
    · rw [if_pos (Or.inl h4), if_neg (by simp; omega)]
      rfl
    · by_cases h48 : 4 < dgs (yrK l) ∧ (yrK l).head? = some 48
      · rw [if_pos (Or.inr (Or.inr h48)), if_neg (by simp [h48])]
        rfl
      · have hno : ¬ (dgs (yrK l) < 4 ∨ 9 < dgs (yrK l) ∨ (4 < dgs (yrK l) ∧ (yrK l).head? = some 48)) := fun q => by
          rcases q with q | q | q
          · exact h4 q
          · exact h9 q
          · exact h48 q
        rw [if_neg hno]
        by_cases h0 : dvl ((yrK l).take (dgs (yrK l))) = 0
        · have hz : ¬ ((decide (4 ≤ dgs (yrK l)) && decide (0 < dvl ((yrK l).take (dgs (yrK l)))) && !(decide (4 < dgs (yrK l)) && decide ((yrK l).head? = some 48))) = true) := by simp [h0]
          rw [if_pos h0, if_neg hz]
          rfl
        · have hz : (decide (4 ≤ dgs (yrK l)) && decide (0 < dvl ((yrK l).take (dgs (yrK l)))) && !(decide (4 < dgs (yrK l)) && decide ((yrK l).head? = some 48))) = true := by
            have e1 : decide (4 ≤ dgs (yrK l)) = true := by simp; omega
            have e2 : decide (0 < dvl ((yrK l).take (dgs (yrK l)))) = true := by simp; omega
            rw [e1, e2]
            by_cases q : 4 < dgs (yrK l)
            · have e3 : decide ((yrK l).head? = some 48) = false := by simpa using fun p => h48 ⟨q, p⟩
              rw [e3]; simp
            · have e3 : decide (4 < dgs (yrK l)) = false := by simpa using q
              rw [e3]; rfl
          rw [if_neg h0, if_pos hz]
          rfl
/-- Fractions likewise. -/
theorem fr_bind (F : Mo → List Int → Option Mo) (hF : ∀ a l, Dig l → F a l = none) (a : Mo) (ha : a.n = 0) (l : List Int) : ((gFr a l).bind fun x => F x.1 x.2) = (frB l).bind fun y => F { a with n := y.1 } y.2 := by
  unfold gFr frG frB
  by_cases h46 : l.head? = some 46
  · rw [if_pos h46, if_pos h46]
    by_cases h9 : 9 < dgs l.tail
    · have hk : dk 9 l.tail = 9 := by unfold dk; omega
      rw [hk, if_neg (by omega), if_pos (Or.inr h9)]
      simp only [Option.map_some, Option.bind_some]
      rw [hF _ _ (drop_dig h9)]
      rfl
    · have hk : dk 9 l.tail = dgs l.tail := by unfold dk; omega
      rw [hk]
      by_cases h0 : dgs l.tail = 0
      · rw [if_pos h0, if_pos (Or.inl (by omega))]
        rfl
      · rw [if_neg h0, if_neg (by omega)]
        have hnm : nmB (dgs l.tail) l.tail = some (dvl (l.tail.take (dgs l.tail)), l.tail.drop (dgs l.tail)) := by unfold nmB; rw [if_neg (by omega)]
        rw [hnm]
        simp
  · rw [if_neg h46, if_neg h46]
    simp only [Option.map_some, Option.bind_some]
    have : { a with n := 0 } = a := by rw [← ha]
    rw [this]
theorem mk_bind {σ : Type} {β : Type} (c : Int) (F : σ → List Int → Option β) (a : σ) (l : List Int) : ((gMk c a l).bind fun x => F x.1 x.2) = (tkB c l).bind fun r => F a r := by
  unfold gMk tkB
  split <;> rfl
theorem mo_bind (F : Mo → List Int → Option Mo) (a : Mo) (l : List Int) : ((gMo a l).bind fun x => F x.1 x.2) = (inB 1 12 l).bind fun x => F { a with m := x.1 } x.2 := by
  unfold gMo
  cases inB 1 12 l <;> rfl
theorem dy_bind (F : Mo → List Int → Option Mo) (a : Mo) (l : List Int) : ((gDy a l).bind fun x => F x.1 x.2) = (inB 1 (lenL (lnY a.y) a.m) l).bind fun x => F { a with d := x.1 } x.2 := by
  unfold gDy
  cases inB 1 (lenL (lnY a.y) a.m) l <;> rfl
theorem ck_eq (l : List Int) : ckG l = (inB 0 24 l).bind fun h => (tkB 58 h.2).bind fun l1 => (inB 0 59 l1).bind fun m => (tkB 58 m.2).bind fun l2 => (inB 0 59 l2).bind fun s => if 3600 * h.1 + 60 * m.1 + s.1 ≤ 86400 then some (3600 * h.1 + 60 * m.1 + s.1, s.2) else none := by
  unfold ckG g5
  simp only [runG, gMk, tkB]
  cases inB 0 24 l with
  | none => rfl
  | some h =>
    simp only [Option.map_some, Option.bind_some]
    split
    · simp only [Option.bind_some]
      cases inB 0 59 h.2.tail with
      | none => rfl
      | some m =>
        simp only [Option.map_some, Option.bind_some]
        split
        · simp only [Option.bind_some]
          cases inB 0 59 m.2.tail with
          | none => rfl
          | some s => rfl
        · rfl
    · rfl
theorem ck_in' {l : List Int} {x : Int × List Int} (h : ckG l = some x) : 0 ≤ x.1 ∧ x.1 ≤ 86400 := by
  rw [ck_eq] at h
  obtain ⟨a, ha, h⟩ := Option.bind_eq_some_iff.1 h
  obtain ⟨l1, _, h⟩ := Option.bind_eq_some_iff.1 h
  obtain ⟨b, hb, h⟩ := Option.bind_eq_some_iff.1 h
  obtain ⟨l2, _, h⟩ := Option.bind_eq_some_iff.1 h
  obtain ⟨c, hc, h⟩ := Option.bind_eq_some_iff.1 h
  have := in_in ha
  have := in_in hb
  have := in_in hc
  split at h
  · cases h
    dsimp only
    omega
  · cases h
/-- A clock with its fraction. -/
theorem cl_bind (F : Mo → List Int → Option Mo) (hF : ∀ a l, Dig l → F a l = none) (h24 : ∀ a l, a.s = 86400 → 0 < a.n → F a l = none) (a : Mo) (ha : a.n = 0) (l : List Int) :
    ((gCl a l).bind fun x => (gFr x.1 x.2).bind fun y => F y.1 y.2) = (clB l).bind fun c => F { a with s := c.1.1, n := c.1.2 } c.2 := by
  have h1 : ((gCl a l).bind fun x => (gFr x.1 x.2).bind fun y => F y.1 y.2) = (ckG l).bind fun c => (frB c.2).bind fun f => F { a with s := c.1, n := f.1 } f.2 := by
    unfold gCl
    cases ckG l with
    | none => rfl
    | some c =>
      simp only [Option.map_some, Option.bind_some]
      rw [fr_bind F hF { a with s := c.1 } ha]
  rw [h1, ck_eq]
  unfold clB
  simp only [Option.bind_assoc]
  refine obind fun h hh => obind fun l1 _ => obind fun m hm => obind fun l2 _ => obind fun s hs => ?_
  have b1 := in_in hh
  have b2 := in_in hm
  have b3 := in_in hs
  by_cases hq : 3600 * h.1 + 60 * m.1 + s.1 ≤ 86400
  · rw [if_pos hq, Option.bind_some]
    refine obind fun f hf => ?_
    have b4 := fr_in hf
    by_cases hb : h.1 = 24 ∧ (0 < m.1 ∨ 0 < s.1 ∨ 0 < f.1)
    · rw [if_pos hb]
      refine h24 _ _ ?_ ?_
      · dsimp only; omega
      · dsimp only; omega
    · rw [if_neg hb]
      rfl
  · rw [if_neg hq]
    cases frB s.2 with
    | none => rfl
    | some f =>
      simp only [Option.bind_some, Option.bind_none]
      rw [if_pos (by omega)]
      rfl
end Go.Proofs.Ytijcbgjlofcdfaa
