/- Names by the program and by the second telling: plain. -/
import Derived.Test.YtgidbmiahckleaaPl2
namespace Go.Proofs.Ytgidbmiahckleaa
set_option linter.unusedVariables false
set_option linter.unusedSimpArgs false

theorem ext_dat (s : ByteArray) (k : Nat) : (s.extract 0 k).data.toList = s.data.toList.take k := by
  rw [ByteArray.data_extract, Array.toList_extract]
  simp [List.extract]
theorem ba_ext {a b : ByteArray} (h : a.data.toList = b.data.toList) : a = b := ByteArray.ext (Array.toList_inj.1 h)
theorem ix_val : ∀ (l : List Int) (k : Nat), ix l = (k : Int) → l[k]? = some 58
  | [], k, h => by simp [ix] at h
  | b :: l, k, h => by
    unfold ix at h
    by_cases hb : b = 58
    · rw [if_pos hb] at h
      have : k = 0 := by omega
      subst this
      rw [hb]; rfl
    · rw [if_neg hb] at h
      by_cases h1 : ix l = -1
      · rw [if_pos h1] at h; omega
      · rw [if_neg h1] at h
        obtain ⟨m, rfl⟩ : ∃ m, k = m + 1 := ⟨k - 1, by rcases ix_bd l with q | q <;> omega⟩
        have := ix_val l m (by omega)
        simpa using this
/-- A name that begins with the prefix xmlns. -/
theorem hp_ix {s : ByteArray} (h : hpB s = true) : ix (bl s) = ((5 : Nat) : Int) ∧ s.extract 0 5 = xnsB := by
  obtain ⟨h1, h2⟩ := (hp_iff s).1 h
  have h3 : s.data.toList.take 6 = [120, 109, 108, 110, 115, 58] := by rw [← ext_dat, h2]; rfl
  have h4 : s.data.toList = [120, 109, 108, 110, 115, 58] ++ s.data.toList.drop 6 := by rw [← h3, List.take_append_drop]
  constructor
  · unfold bl
    rw [h4]
    simp [ix]
  · apply ba_ext
    rw [ext_dat, h4]
    rfl
theorem ix_hp {s : ByteArray} {k : Nat} (h : ix (bl s) = (k : Int)) (hp : s.extract 0 k = xnsB) : hpB s = true := by
  have hd : s.data.toList.take k = [120, 109, 108, 110, 115] := by rw [← ext_dat, hp]; rfl
  have hv := ix_val _ _ h
  unfold bl at hv
  rw [List.getElem?_map] at hv
  obtain ⟨c, hc, hc58⟩ := Option.map_eq_some_iff.1 hv
  have hk : k < s.data.toList.length := (List.getElem?_eq_some_iff.1 hc).1
  have hk5 : k = 5 := by
    have := congrArg List.length hd
    rw [List.length_take] at this
    simp only [List.length_cons, List.length_nil] at this
    omega
  subst hk5
  have hc' : c = 58 := UInt8.toNat_inj.1 (by have : (c.toNat : Int) = 58 := hc58; show c.toNat = 58; omega)
  refine (hp_iff s).2 ⟨?_, ba_ext ?_⟩
  · have : s.data.toList.length = s.size := by rw [Array.length_toList]; rfl
    omega
  · rw [ext_dat, List.take_add_one, hd, hc, hc']
    rfl
/-- The two tell the same spaces. -/
def Rel (l : Bs) (L : List Bs) : Prop := ∀ s, s ≠ xmlB → spc l s = spR L s
theorem space_rel {l : Bs} {L : List Bs} (h : Rel l L) (s : ByteArray) : spaceS l s = spaceR L s := by
  unfold spaceS spaceR
  by_cases hs : s = xmlB
  · rw [if_pos hs, if_pos hs]
  · rw [if_neg hs, if_neg hs, h s hs]
    cases spR L s <;> rfl
theorem res_rel {l : Bs} {L : List Bs} (h : Rel l L) (s : ByteArray) : resS l s = resR L s := by
  unfold resS resR
  rw [space_rel h]
theorem qn_ok {s : ByteArray} (h : (qn s).2.2 = true) : (ix (bl s) = -1 ∧ qn s = (⟨#[]⟩, s, true)) ∨ ∃ k : Nat, ix (bl s) = (k : Int) ∧ ncB (bl (s.extract 0 k)) = true ∧ (qn s).1 = s.extract 0 k := by
  rcases ix_bd (bl s) with q | ⟨q, _⟩
  · left
    refine ⟨q, ?_⟩
    unfold qn at h ⊢
    rw [if_pos q] at h ⊢
    by_cases hn : ncB (bl s) = true
    · rw [if_pos hn]
    · rw [if_neg hn] at h; simp at h
  · right
    obtain ⟨k, hk⟩ : ∃ k : Nat, ix (bl s) = (k : Int) := ⟨(ix (bl s)).toNat, by omega⟩
    refine ⟨k, hk, ?_⟩
    rw [qn_at s k hk] at h ⊢
    by_cases hn : ncB (bl (s.extract 0 k)) = true ∧ ncB (bl (s.extract (k + 1) s.size)) = true
    · rw [if_pos hn]; exact ⟨hn.1, rfl⟩
    · rw [if_neg hn] at h; simp at h
theorem xns_tl {p : ByteArray} : p.toList = xnL ↔ p = xnsB := by
  constructor
  · intro q; exact (tl_eq _ _).1 (by rw [q]; exact (tl_mk _).symm)
  · rintro rfl; exact tl_mk _
theorem nil_tl {p : ByteArray} : p.toList = [] ↔ p = ⟨#[]⟩ := by
  constructor
  · intro q; exact (tl_eq _ _).1 (by rw [q]; exact (tl_mk _).symm)
  · rintro rfl; exact tl_mk _
theorem nc_nil : ncB (bl ⟨#[]⟩) = false := by decide +kernel
theorem e_xns : ¬ (⟨#[]⟩ : ByteArray) = xnsB := by decide
theorem e_xml : ¬ (⟨#[]⟩ : ByteArray) = xmlB := by decide
theorem elt_rel {l : Bs} {L : List Bs} (h : Rel l L) (s : ByteArray) : eltS l s = nameR L s false := by
  unfold eltS nameR
  cases hq : (qn s).2.2 with
  | false =>
    by_cases hp : hpB s = true
    · rw [if_pos hp, if_pos (.inl rfl)]
    · rw [if_neg hp, if_pos (.inl rfl)]; unfold resS; rw [if_pos hq]
  | true =>
    rcases qn_ok hq with ⟨hi, he⟩ | ⟨k, hk, hn, hpre⟩
    · have hp : ¬ hpB s = true := fun q => by have := (hp_ix q).1; omega
      have hx : ¬ ((true : Bool) = false ∨ (qn s).1.toList = xnL) := by
        rintro (q | q)
        · exact Bool.noConfusion q
        · rw [he] at q; rw [xns_tl] at q; exact e_xns q
      rw [if_neg hp, if_neg hx, if_neg (by simp), res_rel h]
    · by_cases hp : hpB s = true
      · obtain ⟨h5, hx⟩ := hp_ix hp
        have hk5 : k = 5 := by omega
        subst hk5
        rw [if_pos hp, if_pos (.inr (by rw [hpre]; exact xns_tl.2 hx))]
      · have hx : ¬ ((true : Bool) = false ∨ (qn s).1.toList = xnL) := by
          rintro (q | q)
          · exact Bool.noConfusion q
          · rw [hpre, xns_tl] at q; exact hp (ix_hp hk q)
        rw [if_neg hp, if_neg hx, if_neg (by simp), res_rel h]
theorem att_rel {l : Bs} {L : List Bs} (h : Rel l L) (s : ByteArray) : attS l s = nameR L s true := by
  unfold attS
  rw [elt_rel h]
  rcases ix_bd (bl s) with q | ⟨q, _⟩
  · rw [if_neg (by simp; omega)]
    unfold nameR
    cases hq : (qn s).2.2 with
    | false => rw [if_pos (.inl rfl), if_pos (.inl rfl)]
    | true =>
      rcases qn_ok hq with ⟨hi, he⟩ | ⟨k, hk, _⟩
      · have hx : ¬ ((true : Bool) = false ∨ (qn s).1.toList = xnL) := by
          rintro (q | q)
          · exact Bool.noConfusion q
          · rw [he] at q; rw [xns_tl] at q; exact e_xns q
        have hz : (qn s).1.toList = [] := by rw [he]; exact nil_tl.2 rfl
        rw [if_neg hx, if_neg (by simp), if_neg hx, if_pos ⟨rfl, hz⟩]
        unfold resR
        have hsp : (spaceR L (qn s).1).2 = true := by
          unfold spaceR
          rw [he, if_neg e_xml]
          cases spR L ⟨#[]⟩ with
          | some v => rfl
          | none => show (⟨#[]⟩ : ByteArray).toList.isEmpty = true; rw [tl_mk]; rfl
        rw [if_neg (by rw [hq]; simp), if_neg (by rw [hsp]; simp)]
      · omega
  · rw [if_pos (by simp; exact q)]
    unfold nameR
    cases hq : (qn s).2.2 with
    | false => rw [if_pos (.inl rfl), if_pos (.inl rfl)]
    | true =>
      by_cases hx : (qn s).1.toList = xnL
      · rw [if_pos (.inr hx), if_pos (.inr hx)]
      · have hx' : ¬ ((true : Bool) = false ∨ (qn s).1.toList = xnL) := by
          rintro (q | q)
          · exact Bool.noConfusion q
          · exact hx q
        have hne : ¬ (qn s).1.toList = [] := fun q' => by
          rcases qn_ok hq with ⟨hi, _⟩ | ⟨k, hk, hn, hpre⟩
          · omega
          · rw [nil_tl] at q'
            rw [← hpre, q', nc_nil] at hn
            simp at hn
        rw [if_neg hx', if_neg (by simp), if_neg hx', if_neg (fun q' => hne q'.2)]
end Go.Proofs.Ytgidbmiahckleaa
