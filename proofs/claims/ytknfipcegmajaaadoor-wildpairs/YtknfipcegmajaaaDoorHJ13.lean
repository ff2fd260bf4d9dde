/- Joined: HW2, HW3. -/
import Derived.Test.YtknfipcegmajaaaDoorHJ4
import Derived.Lib.SlicesCompact
import Derived.Lib.RowBridge
import Derived.Shelf.Spec.SearchS
namespace Go.Proofs.YtknfipcegmajaaaDoor
set_option linter.unusedVariables false
set_option linter.unusedSimpArgs false

/-- How many of a row's texts are below one. -/
def lw (x : Tx) : List Tx → Nat
  | [] => 0
  | a :: l => if a < x then lw x l + 1 else 0
theorem lw_le (x : Tx) : ∀ l : List Tx, lw x l ≤ l.length
  | [] => Nat.le_refl _
  | a :: l => by
    have := lw_le x l
    unfold lw
    split <;> simp <;> omega
theorem lw_lt {x : Tx} : ∀ {l : List Tx} {t : Nat} (h : t < lw x l) (ht : t < l.length), l[t] < x
  | [], t, h, ht => by simp at ht
  | a :: l, t, h, ht => by
    unfold lw at h
    split at h
    · cases t with
      | zero => assumption
      | succ t => exact lw_lt (l := l) (by omega) (by simpa using ht)
    · omega
theorem lw_ge {x : Tx} : ∀ {l : List Tx} (hi : Inc l) {t : Nat} (h : lw x l ≤ t) (ht : t < l.length), ¬ l[t] < x
  | [], _, t, h, ht => by simp at ht
  | a :: l, hi, t, h, ht => by
    rw [Inc, List.pairwise_cons] at hi
    unfold lw at h
    split at h
    · cases t with
      | zero => omega
      | succ t => exact lw_ge (l := l) hi.2 (by omega) (by simpa using ht)
    · rename_i g
      cases t with
      | zero => exact g
      | succ t =>
        intro q
        exact g (tx_tr (hi.1 _ (List.getElem_mem (by simpa using ht))) q)
theorem lw_mem {x : Tx} : ∀ {l : List Tx} (hi : Inc l), (∃ h : lw x l < l.length, l[lw x l] = x) ↔ x ∈ l
  | [], _ => by simp [lw]
  | a :: l, hi => by
    rw [Inc, List.pairwise_cons] at hi
    have ih := lw_mem (x := x) (l := l) hi.2
    by_cases g : a < x
    · have e : lw x (a :: l) = lw x l + 1 := by rw [lw, if_pos g]
      rw [List.mem_cons, ← ih]
      constructor
      · rintro ⟨h, q⟩
        simp only [e, List.length_cons] at h
        simp only [e, List.getElem_cons_succ] at q
        exact .inr ⟨by omega, q⟩
      · rintro (q | ⟨h, q⟩)
        · subst q; exact (tx_irr _ g).elim
        · refine ⟨by rw [e, List.length_cons]; omega, ?_⟩
          simp only [e, List.getElem_cons_succ]
          exact q
    · have e : lw x (a :: l) = 0 := by rw [lw, if_neg g]
      rw [List.mem_cons]
      constructor
      · rintro ⟨h, q⟩
        simp only [e, List.getElem_cons_zero] at q
        exact .inl q.symm
      · rintro (q | q)
        · subst q
          refine ⟨by rw [e]; simp, ?_⟩
          simp only [e, List.getElem_cons_zero]
        · exact (g (hi.1 _ q)).elim
theorem rput_in {x : Tx} {l : List Tx} (hi : Inc l) (h : x ∈ l) : rput l x = l := inc_ext (inc_rput hi) hi fun y => by
  rw [mem_rput]
  exact ⟨fun q => q.elim (fun e => by rw [e]; exact h) id, .inr⟩
theorem rput_out {x : Tx} : ∀ {l : List Tx} (hi : Inc l) (h : x ∉ l), rput l x = l.take (lw x l) ++ x :: l.drop (lw x l)
  | [], _, _ => by simp [rput, lw]
  | a :: l, hi, h => by
    rw [Inc, List.pairwise_cons] at hi
    unfold rput lw
    by_cases g : a < x
    · rw [if_pos g, if_pos g, rput_out hi.2 (fun q => h (by simp [q]))]
      simp
    · have : a ≠ x := fun e => h (by simp [e])
      rw [if_neg g, if_neg g, if_neg this]
      simp
/-- What the library's search tells of a row that rises. -/
theorem search_inc {l : List Tx} {x : Tx} (hi : Inc l) (less : Nat → Bool) (hl : ∀ t, less t = (if h : t < l.length then decide (l[t] < x) else false)) :
    Lib.bsGo less l.length 0 l.length = lw x l := by
  refine Lib.bsGo_spec less (lw x l) (fun t ht => ?_) (fun t ht => ?_) _ _ _ (by omega) (Nat.zero_le _) (lw_le x l)
  · have := lw_le x l
    rw [hl, dif_pos (by omega), decide_eq_true_eq]
    exact lw_lt ht _
  · rw [hl]
    split
    · rw [decide_eq_false_iff_not]
      exact lw_ge hi ht _
    · rfl
theorem comp_upto {d : Array Tx} (hs : ∀ i j, i < j → j < d.size → ¬ d[j]! < d[i]!) : ∀ m, m ≤ d.size → Inc (Lib.compactUpTo d m) ∧ ∀ x, x ∈ Lib.compactUpTo d m ↔ ∃ j, j < m ∧ d[j]! = x
  | 0, _ => ⟨by simp [Lib.compactUpTo, Inc], fun x => by simp [Lib.compactUpTo]⟩
  | m + 1, hm => by
    obtain ⟨h1, h2⟩ := comp_upto hs m (by omega)
    rw [Lib.compactUpTo_succ]
    by_cases hk : Lib.keeps d m = true
    · rw [if_pos hk]
      simp only [Lib.keeps, decide_eq_true_eq] at hk
      refine ⟨?_, fun x => ?_⟩
      · rw [Inc, List.pairwise_append]
        refine ⟨h1, by simp, fun a ha b hb => ?_⟩
        simp only [List.mem_singleton] at hb
        subst hb
        obtain ⟨j, hj, rfl⟩ := (h2 a).1 ha
        rcases hk with hk | hk
        · omega
        · have g1 := tx_tri (hs (m - 1) m (by omega) (by omega)) hk
          by_cases e : j = m - 1
          · rw [e]; exact g1
          · by_cases e2 : d[j]! = d[m - 1]!
            · rw [e2]; exact g1
            · exact tx_tr (tx_tri (hs j (m - 1) (by omega) (by omega)) (fun q => e2 q.symm)) g1
      · rw [List.mem_append, h2, List.mem_singleton]
        constructor
        · rintro (⟨j, hj, rfl⟩ | rfl)
          · exact ⟨j, by omega, rfl⟩
          · exact ⟨m, by omega, rfl⟩
        · rintro ⟨j, hj, rfl⟩
          by_cases e : j = m
          · exact .inr (by rw [e])
          · exact .inl ⟨j, by omega, rfl⟩
    · rw [if_neg hk, List.append_nil]
      have hk' : ¬ (m = 0 ∨ d[m]! ≠ d[m - 1]!) := by simpa [Lib.keeps] using hk
      refine ⟨h1, fun x => ?_⟩
      rw [h2]
      constructor
      · rintro ⟨j, hj, rfl⟩
        exact ⟨j, by omega, rfl⟩
      · rintro ⟨j, hj, rfl⟩
        by_cases e : j = m
        · refine ⟨m - 1, by omega, ?_⟩
          rw [e]
          exact (Classical.not_not.1 (fun q => hk' (.inr q))).symm
        · exact ⟨j, by omega, rfl⟩
theorem comp_rs (l : List Tx) : Lib.compact (l.mergeSort fun x y => decide (x ≤ y)) = rs l := by
  have hp := List.pairwise_mergeSort (le := fun x y : Tx => decide (x ≤ y)) (fun a b c h1 h2 => by simp only [decide_eq_true_eq] at *; exact List.le_trans h1 h2) (fun a b => by
    simp only [Bool.or_eq_true, decide_eq_true_eq]
    exact List.le_total a b) l
  generalize hL : l.mergeSort (fun x y => decide (x ≤ y)) = L at hp
  have hs : ∀ i j, i < j → j < L.toArray.size → ¬ L.toArray[j]! < L.toArray[i]! := by
    intro i j hij hj
    have hj' : j < L.length := by simpa using hj
    have := List.pairwise_iff_getElem.1 hp i j (by omega) hj' hij
    simp only [decide_eq_true_eq] at this
    rw [getElem!_pos L.toArray j hj, getElem!_pos L.toArray i (by omega)]
    simpa using this
  obtain ⟨h1, h2⟩ := comp_upto hs L.length (by simp)
  refine rs_of h1 fun x => ?_
  refine (h2 x).trans ?_
  rw [← List.mem_mergeSort (le := fun x y : Tx => decide (x ≤ y)), hL, List.mem_iff_getElem]
  constructor
  · rintro ⟨j, hj, rfl⟩
    exact ⟨j, hj, by simp [hj]⟩
  · rintro ⟨j, hj, rfl⟩
    exact ⟨j, hj, by simp [hj]⟩
theorem rs_len (l : List Tx) : (rs l).length ≤ l.length := by
  rw [← comp_rs]
  refine Nat.le_trans (Lib.compact_length_le _) ?_
  rw [List.length_mergeSort]
  exact Nat.le_refl _
instance (l : List Tx) : Decidable (Inc l) := inferInstanceAs (Decidable (List.Pairwise _ _))
theorem inc_adj : ∀ {l : List Tx}, (∀ (j : Nat) (h : j + 1 < l.length), l[j]'(by omega) < l[j + 1]) → Inc l
  | [], _ => inc_nil
  | [a], _ => inc_one a
  | a :: b :: l, h => by
    have ih : Inc (b :: l) := inc_adj fun j hj => by
      have := h (j + 1) (by simp at hj ⊢; omega)
      simpa using this
    have hab : a < b := by
      have := h 0 (by simp)
      simpa using this
    rw [Inc, List.pairwise_cons]
    refine ⟨fun x hx => ?_, ih⟩
    rcases List.mem_cons.1 hx with e | e
    · rw [e]; exact hab
    · rw [Inc, List.pairwise_cons] at ih
      exact tx_tr hab (ih.1 x e)
theorem adj_inc {l : List Tx} (hi : Inc l) (j : Nat) (h : j + 1 < l.length) : l[j]'(by omega) < l[j + 1] := List.pairwise_iff_getElem.1 hi j (j + 1) (by omega) h (by omega)
end Go.Proofs.YtknfipcegmajaaaDoor
namespace Go.Proofs.YtknfipcegmajaaaDoor
set_option linter.unusedVariables false
set_option linter.unusedSimpArgs false

def tAny : Tx := [35, 35, 97, 110, 121]
def tOther : Tx := [35, 35, 111, 116, 104, 101, 114]
def tTarget : Tx := [35, 35, 116, 97, 114, 103, 101, 116, 78, 97, 109, 101, 115, 112, 97, 99, 101]
def tLocal : Tx := [35, 35, 108, 111, 99, 97, 108]
def tStrict : Tx := [115, 116, 114, 105, 99, 116]
def tLax : Tx := [108, 97, 120]
def tSkip : Tx := [115, 107, 105, 112]
def prS (p : Tx) : Int := if p = [] ∨ p = tStrict then 1 else if p = tLax then 2 else if p = tSkip then 3 else 0
/-- Does a word begin with two hashes? -/
def hsB (x : Tx) : Bool := List.isPrefixOf [35, 35] x
/-- Whether a word stands for a space, and which. -/
def okB (t x : Tx) : Bool := if x = tTarget then true else if x = tLocal then true else !hsB x
def spV1 (t x : Tx) : Tx := if x = tTarget then t else if x = tLocal then [] else x
def parS (ws : List Tx) (t : Tx) : Wd × Bool :=
  if ws = [] ∨ ws = [tAny] then (⟨1, [], [], 0⟩, true) else if ws = [tOther] then (⟨2, t, [], 0⟩, true)
  else if ws.all (okB t) = true then (⟨3, [], rs (ws.map (spV1 t)), 0⟩, true) else (Wd.zero, false)
def parseS (ws : List Tx) (t p : Tx) : Wd × Int :=
  if (parS ws t).2 = false ∨ prS p = 0 then (Wd.zero, 2) else ({ (parS ws t).1 with pr := prS p }, 0)
theorem prS_bd (p : Tx) : 0 ≤ prS p ∧ prS p ≤ 3 := by unfold prS; split <;> (try split) <;> (try split) <;> omega
theorem parS_shape (ws : List Tx) (t : Tx) (h : (parS ws t).2 = true) : Wr { (parS ws t).1 with pr := 1 } := by
  unfold parS at h ⊢
  by_cases h1 : ws = [] ∨ ws = [tAny]
  · rw [if_pos h1]; exact ⟨.inl rfl, fun _ => rfl, fun _ => rfl, inc_nil, by dsimp only; omega⟩
  · rw [if_neg h1] at h ⊢
    by_cases h2 : ws = [tOther]
    · rw [if_pos h2]; exact ⟨.inr (.inl rfl), fun q => absurd rfl q, fun _ => rfl, inc_nil, by dsimp only; omega⟩
    · rw [if_neg h2] at h ⊢
      by_cases h3 : ws.all (okB t) = true
      · rw [if_pos h3]; exact ⟨.inr (.inr rfl), fun _ => rfl, fun q => absurd rfl q, inc_rs _, by dsimp only; omega⟩
      · rw [if_neg h3] at h; simp at h
theorem parse_wr {ws : List Tx} {t p : Tx} (h : (parseS ws t p).2 = 0) : Wr (parseS ws t p).1 := by
  unfold parseS at h ⊢
  by_cases h1 : (parS ws t).2 = false ∨ prS p = 0
  · rw [if_pos h1] at h; simp at h
  · rw [if_neg h1]
    have h2 : (parS ws t).2 = true := by
      cases g : (parS ws t).2
      · exact absurd (.inl g) h1
      · rfl
    have h3 := parS_shape ws t h2
    have := prS_bd p
    exact ⟨h3.how, h3.nt, h3.sp, h3.inc, by dsimp only; have : ¬ prS p = 0 := fun q => h1 (.inr q); omega⟩
theorem hs_take (x : Tx) : hsB x = (decide (2 ≤ x.length) && decide (x.take 2 = [35, 35])) := by
  unfold hsB
  match x with
  | [] => rfl
  | [a] => simp [List.isPrefixOf]
  | a :: b :: l => simp [List.isPrefixOf]; by_cases h : a = 35 <;> by_cases h' : b = 35 <;> simp [h, h'] <;> (first | (intro q; exact absurd q.symm (by assumption)) | skip) <;> simp_all [eq_comm]
/-- The second telling puts its spaces one by one. -/
theorem fold_map (ws : List Tx) (f : Tx → Tx) (l : List Tx) : ws.foldl (fun l x => rput l (f x)) l = (ws.map f).foldl rput l := by
  induction ws generalizing l with
  | nil => rfl
  | cons a ws ih => simp only [List.foldl_cons, List.map_cons]; exact ih _
theorem len_rs_map (ws : List Tx) (f : Tx → Tx) : (rs (ws.map f)).length ≤ ws.length := by
  have := rs_len (ws.map f)
  rwa [List.length_map] at this
end Go.Proofs.YtknfipcegmajaaaDoor
