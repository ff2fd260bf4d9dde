/- The program's bindings and the second telling's: plain. -/
import Derived.Test.YtgidbmiahckleaaRf6
namespace Go.Proofs.Ytgidbmiahckleaa
set_option linter.unusedVariables false
set_option linter.unusedSimpArgs false

theorem ba_beq {a b : ByteArray} : (a == b) = true ↔ a = b := bq
theorem hp_iff (s : ByteArray) : hpB s = true ↔ 6 ≤ s.size ∧ s.extract 0 6 = xnB := by
  unfold hpB
  rw [Bool.and_eq_true, decide_eq_true_eq, bq]
theorem ext_all {s : ByteArray} (h : s.size = 6) : s.extract 0 6 = s := by
  rw [← h]
  exact ByteArray.extract_zero_size
/-- Where the two tell the same. -/
theorem bin_eq {s : ByteArray} (h : s ≠ xnB) : (binR s).2 = (bindS s).2 ∧ ((bindS s).2 = true → (binR s).1 = (bindS s).1) := by
  unfold binR bindS cpS
  by_cases h1 : s = xnsB
  · rw [if_pos h1, if_pos h1]
    exact ⟨rfl, fun _ => rfl⟩
  · rw [if_neg h1, if_neg h1]
    by_cases h2 : hpB s = true
    · rw [if_pos h2]
      have h3 := (hp_iff s).1 h2
      have h4 : 6 < s.size := by
        rcases Nat.lt_or_eq_of_le h3.1 with q | q
        · exact q
        · exfalso
          apply h
          rw [← h3.2, ext_all q.symm]
      rw [if_pos ⟨h4, h3.2⟩]
      exact ⟨rfl, fun _ => rfl⟩
    · rw [if_neg h2]
      have h5 : ¬ (6 < s.size ∧ s.extract 0 6 = xnB) := fun q => h2 ((hp_iff s).2 ⟨by omega, q.2⟩)
      rw [if_neg h5]
      exact ⟨rfl, fun q => by simp at q⟩
theorem bin_xn : (binR xnB).2 = false ∧ (bindS xnB) = (⟨#[]⟩, true) := by decide +kernel
theorem may_xn (v : ByteArray) : mayS xnB v = false := by
  have f : bindS xnB = (⟨#[]⟩, true) ∧ (xnB.toList == xnL) = false ∧ ncB (bl (⟨#[]⟩ : ByteArray)) = false := by decide +kernel
  obtain ⟨f1, f2, f3⟩ := f
  unfold mayS mayC
  rw [f1, f2]
  simp [f3]
/-- What may be bound: the two tell the same. -/
theorem may_bad {nm v : ByteArray} (h : (bindS nm).2 = true) : mayS nm v = !badR (bindS nm).1 nm v := by
  have hd : (nm.toList == xnL) = true → ((bindS nm).1.toList == xnL) = false ∧ ((bindS nm).1.toList == xmL) = false := by
    intro q
    have e : nm = xnsB := (tl_eq _ _).1 (by rw [beq_iff_eq.1 q]; exact (tl_mk _).symm)
    subst e
    have : ((bindS xnsB).1.toList == xnL) = false ∧ ((bindS xnsB).1.toList == xmL) = false := by decide +kernel
    exact this
  have hv1 : (v.toList == XML_L) = true → (v.toList == XNS_L) = false ∧ (v.toList == []) = false := by
    intro q
    rw [beq_iff_eq.1 q]
    decide
  unfold mayS mayC badR
  rw [h]
  generalize (nm.toList == xnL) = d at *
  generalize ncB (bl (bindS nm).1) = nc at *
  generalize ((bindS nm).1.toList == xnL) = x2 at *
  generalize ((bindS nm).1.toList == xmL) = x3 at *
  generalize (v.toList == XML_L) = x4 at *
  generalize (v.toList == XNS_L) = x5 at *
  generalize (v.toList == []) = x6 at *
  cases d <;> cases nc <;> cases x2 <;> cases x3 <;> cases x4 <;> cases x5 <;> cases x6 <;> simp_all
/-- What the second telling gathers. -/
def colR (ats : Ats) (lb : Bs) : Bs := ats.foldl (fun lb a => if (binR a.1).2 = true then lb ++ [((binR a.1).1, a.2.1)] else lb) lb
theorem lkp_snoc (lb : Bs) (k v s : ByteArray) : lkp (lb ++ [(k, v)]) s = (lkp lb s).or (if s = k then some v else none) := by
  unfold lkp
  rw [List.find?_append]
  cases h : lb.find? (fun p => s == p.1) with
  | some q => rfl
  | none =>
    rw [List.find?_cons]
    by_cases hs : s = k
    · rw [bq.2 hs, if_pos hs]; rfl
    · rw [bqf.2 hs, if_neg hs]; rfl
/-- What is bound behind bind, by both. -/
theorem bind_rel (σ : Sg) : ∀ (ats : Ats) (l : Bs) (h : Hs) (lb : Bs), (∀ a ∈ ats, a.1 ≠ xnB) → (∀ s, s ≠ xmlB → spc l s = (lkp lb s).or (σ s)) → (∀ s, s ≠ xmlB → (has h s = true ↔ (lkp lb s).isSome = true)) →
    ∀ s, s ≠ xmlB → spc ((ps ats).foldl bstep (l, h)).1 s = (lkp (colR ats lb) s).or (σ s)
  | [], l, h, lb, _, h1, _, s, hs => h1 s hs
  | a :: ats, l, h, lb, h0, h1, h2, s, hs => by
    have hne := h0 a (by simp)
    have hb := bin_eq hne
    have hrest : ∀ x ∈ ats, x.1 ≠ xnB := fun x hx => h0 x (by simp [hx])
    have e1 : ps (a :: ats) = (a.1, a.2.1) :: ps ats := rfl
    have e2 : colR (a :: ats) lb = colR ats (if (binR a.1).2 = true then lb ++ [((binR a.1).1, a.2.1)] else lb) := rfl
    rw [e1, List.foldl_cons, e2]
    unfold bstep
    by_cases hbi : (bindS a.1).2 = false
    · rw [if_pos hbi, if_neg (by rw [hb.1, hbi]; simp)]
      exact bind_rel σ ats l h lb hrest h1 h2 s hs
    · have hbt : (bindS a.1).2 = true := by simpa using hbi
      have hcc : (if (binR a.1).2 = true then lb ++ [((binR a.1).1, a.2.1)] else lb) = lb ++ [((bindS a.1).1, a.2.1)] := by rw [if_pos (by rw [hb.1]; exact hbt), hb.2 hbt]
      rw [hcc, if_neg hbi]
      dsimp only
      generalize (bindS a.1).1 = k at *
      by_cases hk : k = xmlB
      · have hst : (if has h k = true then (l, h) else if k = xmlB then (l, h) else (setB l k a.2.1, h ++ [(k, spc l k)])) = (l, h) := by
          by_cases q : has h k = true
          · rw [if_pos q]
          · rw [if_neg q, if_pos hk]
        rw [hst]
        refine bind_rel σ ats l h _ hrest (fun t ht => ?_) (fun t ht => ?_) s hs
        · rw [lkp_snoc, if_neg (by rw [hk]; exact ht), Option.or_none]; exact h1 t ht
        · rw [lkp_snoc, if_neg (by rw [hk]; exact ht), Option.or_none]; exact h2 t ht
      · by_cases q : has h k = true
        · rw [if_pos q]
          have hsome := (h2 k hk).1 q
          have hsn : ∀ t, lkp (lb ++ [(k, a.2.1)]) t = lkp lb t := fun t => by
            rw [lkp_snoc]
            by_cases ht : t = k
            · rw [ht]
              obtain ⟨y, hy⟩ := Option.isSome_iff_exists.1 hsome
              rw [hy]; rfl
            · rw [if_neg ht, Option.or_none]
          exact bind_rel σ ats l h _ hrest (fun t ht => by rw [hsn]; exact h1 t ht) (fun t ht => by rw [hsn]; exact h2 t ht) s hs
        · rw [if_neg q, if_neg hk]
          have hnone : lkp lb k = none := by
            cases hl : lkp lb k with
            | none => rfl
            | some y => exact absurd ((h2 k hk).2 (by rw [hl]; rfl)) q
          refine bind_rel σ ats _ _ _ hrest (fun t ht => ?_) (fun t ht => ?_) s hs
          · rw [setB_spc, lkp_snoc]
            by_cases htk : t = k
            · rw [if_pos htk, if_pos htk, htk, hnone]; rfl
            · rw [if_neg htk, if_neg htk, Option.or_none]; exact h1 t ht
          · rw [has_iff, List.map_append, List.mem_append, lkp_snoc]
            by_cases htk : t = k
            · rw [if_pos htk, htk, hnone]; simp
            · rw [if_neg htk, Option.or_none, ← h2 t ht, has_iff]
              simp [htk]
end Go.Proofs.Ytgidbmiahckleaa
