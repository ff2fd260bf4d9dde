/- Binds by the program and by the second telling: plain. -/
import Derived.Test.YtgidbmiahckleaaPl4
namespace Go.Proofs.Ytgidbmiahckleaa
set_option linter.unusedVariables false
set_option linter.unusedSimpArgs false

abbrev ltK (a b : ByteArray) : Prop := Lib.compareBytes a.data.toList b.data.toList < 0
/-- A prefix put where it belongs, if it is not there. -/
def insR (p v : ByteArray) : Bs → Bs
  | [] => [(p, v)]
  | q :: o => if ltK q.1 p then q :: insR p v o else if q.1 = p then q :: o else (p, v) :: q :: o
def gstep (L : List Bs) (o : Bs) (p : ByteArray × ByteArray) : Bs := if p.1 = xmlB then o else insR p.1 (spaceR L p.1).1 o
def gthR (L : List Bs) (rows acc : Bs) : Bs := rows.foldl (gstep L) acc
/-- What the second telling's Binds gives. -/
def bndR (L : List Bs) : Bs := (gthR L L.flatten []).filter nonE
theorem ltK_tri {a b : ByteArray} (h : ¬ ltK a b) (hn : a ≠ b) : ltK b a := by
  have h3 := cmp_neg a.data.toList b.data.toList
  have h4 : Lib.compareBytes a.data.toList b.data.toList ≠ 0 := fun q => hn (ba_ext (cmp_zero _ _ q))
  unfold ltK at *
  omega
theorem ltK_ne {a b : ByteArray} (h : ltK a b) : a ≠ b := by
  rintro rfl
  have := cmp_self a.data.toList
  unfold ltK at h
  omega
theorem insR_mem (p v : ByteArray) : ∀ (o : Bs) (x : ByteArray × ByteArray), x ∈ insR p v o → x ∈ o ∨ x = (p, v)
  | [], x, h => by simp [insR] at h; exact .inr h
  | q :: o, x, h => by
    rw [insR] at h
    split at h
    · rw [List.mem_cons] at h
      rcases h with h | h
      · exact .inl (by simp [h])
      · rcases insR_mem p v o x h with q1 | q1
        · exact .inl (by simp [q1])
        · exact .inr q1
    · split at h
      · exact .inl h
      · rw [List.mem_cons] at h
        rcases h with h | h
        · exact .inr h
        · exact .inl h
theorem insR_key (p v s : ByteArray) : ∀ (o : Bs), s ∈ (insR p v o).map (·.1) ↔ s = p ∨ s ∈ o.map (·.1)
  | [] => by simp [insR]
  | q :: o => by
    rw [insR]
    split
    · rw [List.map_cons, List.mem_cons, insR_key p v s o, List.map_cons, List.mem_cons]
      constructor
      · rintro (h | h | h)
        · exact .inr (.inl h)
        · exact .inl h
        · exact .inr (.inr h)
      · rintro (h | h | h)
        · exact .inr (.inl h)
        · exact .inl h
        · exact .inr (.inr h)
    · split
      · rename_i h1 h2
        constructor
        · intro h; exact .inr h
        · rintro (h | h)
          · rw [h, ← h2]; simp
          · exact h
      · rw [List.map_cons, List.mem_cons]
/-- Strictly rising. -/
def SI (o : Bs) : Prop := o.Pairwise fun x y => ltK x.1 y.1
theorem insR_si (p v : ByteArray) : ∀ (o : Bs), SI o → SI (insR p v o)
  | [], _ => by simp [insR, SI]
  | q :: o, h => by
    unfold SI at *
    rw [List.pairwise_cons] at h
    rw [insR]
    split
    · rename_i h1
      rw [List.pairwise_cons]
      refine ⟨fun y hy => ?_, insR_si p v o h.2⟩
      rcases insR_mem p v o y hy with k | k
      · exact h.1 y k
      · rw [k]; exact h1
    · split
      · rw [List.pairwise_cons]; exact h
      · rename_i h1 h2
        have h3 := ltK_tri h1 h2
        rw [List.pairwise_cons]
        refine ⟨fun y hy => ?_, by rw [List.pairwise_cons]; exact h⟩
        rw [List.mem_cons] at hy
        rcases hy with rfl | hy
        · exact h3
        · exact cmp_trans _ _ _ h3 (h.1 y hy)
theorem SI.nk {o : Bs} (h : SI o) : NK o := by
  unfold NK
  rw [List.Nodup, List.pairwise_map]
  exact List.Pairwise.imp (fun q => ltK_ne q) h
theorem SI.srt {o : Bs} (h : SI o) : Srt o := by
  unfold Srt
  refine List.Pairwise.imp (fun {x y} q => ?_) h
  have h3 := cmp_neg x.1.data.toList y.1.data.toList
  unfold ltK at q
  omega
theorem gth_si (L : List Bs) : ∀ (rows acc : Bs), SI acc → SI (gthR L rows acc)
  | [], acc, h => h
  | p :: rows, acc, h => by
    show SI (gthR L rows (gstep L acc p))
    apply gth_si L rows
    unfold gstep
    split
    · exact h
    · exact insR_si _ _ _ h
theorem gth_mem (L : List Bs) : ∀ (rows acc : Bs) (x : ByteArray × ByteArray), x ∈ gthR L rows acc → x ∈ acc ∨ (x.1 ≠ xmlB ∧ x.2 = (spaceR L x.1).1 ∧ x.1 ∈ rows.map (·.1))
  | [], acc, x, h => .inl h
  | p :: rows, acc, x, h => by
    have h1 : x ∈ gthR L rows (gstep L acc p) := h
    rcases gth_mem L rows _ x h1 with k | ⟨k1, k2, k3⟩
    · unfold gstep at k
      split at k
      · exact .inl k
      · rename_i hx
        rcases insR_mem _ _ _ _ k with k | k
        · exact .inl k
        · subst k
          exact .inr ⟨hx, rfl, by simp⟩
    · exact .inr ⟨k1, k2, by rw [List.map_cons]; exact List.mem_cons_of_mem _ k3⟩
theorem gth_key (L : List Bs) (s : ByteArray) : ∀ (rows acc : Bs), s ∈ (gthR L rows acc).map (·.1) ↔ s ∈ acc.map (·.1) ∨ (s ≠ xmlB ∧ s ∈ rows.map (·.1))
  | [], acc => by simp [gthR]
  | p :: rows, acc => by
    show s ∈ (gthR L rows (gstep L acc p)).map (·.1) ↔ _
    rw [gth_key L s rows, List.map_cons, List.mem_cons]
    unfold gstep
    split
    · rename_i hx
      constructor
      · rintro (h | ⟨h1, h2⟩)
        · exact .inl h
        · exact .inr ⟨h1, .inr h2⟩
      · rintro (h | ⟨h1, h2 | h2⟩)
        · exact .inl h
        · exact absurd (h2.trans hx) h1
        · exact .inr ⟨h1, h2⟩
    · rename_i hx
      rw [insR_key]
      constructor
      · rintro ((h | h) | ⟨h1, h2⟩)
        · exact .inr ⟨by rw [h]; exact hx, .inl h⟩
        · exact .inl h
        · exact .inr ⟨h1, .inr h2⟩
      · rintro (h | ⟨h1, h2 | h2⟩)
        · exact .inl (.inr h)
        · exact .inl (.inl h2)
        · exact .inr ⟨h1, h2⟩
theorem spR_none (L : List Bs) (s : ByteArray) : spR L s = none ↔ s ∉ L.flatten.map (·.1) := by
  unfold spR
  rw [List.findSome?_eq_none_iff]
  constructor
  · intro h hm
    obtain ⟨x, hx, rfl⟩ := List.mem_map.1 hm
    obtain ⟨b, hb, hxb⟩ := List.mem_flatten.1 hx
    exact lkp_none.1 (h b (List.mem_reverse.2 hb)) (List.mem_map_of_mem hxb)
  · intro h b hb
    refine lkp_none.2 fun hm => h ?_
    obtain ⟨x, hx, rfl⟩ := List.mem_map.1 hm
    exact List.mem_map_of_mem (List.mem_flatten.2 ⟨b, List.mem_reverse.1 hb, hx⟩)
theorem bndR_mem (L : List Bs) (s v : ByteArray) : (s, v) ∈ bndR L ↔ s ≠ xmlB ∧ spR L s = some v ∧ nonE (s, v) = true := by
  unfold bndR
  rw [List.mem_filter]
  have sp : ∀ u, s ≠ xmlB → spR L s = some u → (spaceR L s).1 = u := by
    intro u h1 h2
    unfold spaceR
    rw [if_neg h1, h2]
  constructor
  · rintro ⟨h, hn⟩
    rcases gth_mem L _ _ _ h with k | ⟨k1, k2, k3⟩
    · simp at k
    · refine ⟨k1, ?_, hn⟩
      cases hq : spR L s with
      | none => exact absurd k3 ((spR_none L s).1 hq)
      | some u =>
        have := sp u k1 hq
        rw [← this]
        exact congrArg some k2.symm
  · rintro ⟨h1, h2, h3⟩
    refine ⟨?_, h3⟩
    have hk : s ∈ L.flatten.map (·.1) := by
      apply Classical.byContradiction
      intro q
      rw [(spR_none L s).2 q] at h2
      simp at h2
    have hm := (gth_key L s L.flatten []).2 (.inr ⟨h1, hk⟩)
    obtain ⟨⟨x1, x2⟩, hx, rfl⟩ := List.mem_map.1 hm
    rcases gth_mem L _ _ _ hx with k | ⟨k1, k2, k3⟩
    · simp at k
    · have e : x2 = v := k2.trans (sp v h1 h2)
      rw [← e]
      exact hx
theorem nk_nd {α : Type} {l : List (ByteArray × α)} (h : NK l) : l.Nodup := by
  unfold NK at h
  rw [List.Nodup, List.pairwise_map] at h
  exact List.Pairwise.imp (fun q e => q (by rw [e])) h
/-- Binds by both. -/
theorem bnd_rel {l : Bs} {L : List Bs} (h : Rel l L) (hn : NK l) (hx : spc l xmlB = none) {b : Bs} (hp : b.Perm (l.filter nonE)) (hs : Srt b) : b = bndR L := by
  have hsi : SI (gthR L L.flatten []) := gth_si L _ _ List.Pairwise.nil
  have hsf : SI (bndR L) := List.Pairwise.filter _ hsi
  have n1 : NK (l.filter nonE) := (List.filter_sublist.map _).nodup hn
  have n2 : NK b := (hp.map _).nodup_iff.2 n1
  refine srt_uniq n2 (hp.trans ?_) hs hsf.srt
  rw [List.perm_ext_iff_of_nodup (nk_nd n1) (nk_nd hsf.nk)]
  rintro ⟨s, v⟩
  rw [bndR_mem, List.mem_filter, ← lkp_mem hn, ← spc_lkp]
  constructor
  · rintro ⟨h1, h2⟩
    have hsx : s ≠ xmlB := by
      rintro rfl
      rw [hx] at h1
      simp at h1
    exact ⟨hsx, (h s hsx).symm.trans h1, h2⟩
  · rintro ⟨h1, h2, h3⟩
    exact ⟨(h s h1).trans h2, h3⟩
/-- The prefix xml is never among what is bound. -/
theorem bstep_xml (st : Bs × Hs) (a : ByteArray × ByteArray) (h : spc st.1 xmlB = none) : spc (bstep st a).1 xmlB = none := by
  unfold bstep
  split
  · exact h
  · split
    · exact h
    · split
      · exact h
      · rename_i h1 h2 h3
        show spc (setB _ _ _) _ = _
        rw [setB_spc, if_neg (fun q => h3 q.symm)]
        exact h
theorem binds_xml {l : Bs} (h : spc l xmlB = none) (ats : Bs) : spc (binds l ats).1 xmlB = none := by
  have : ∀ (ats : Bs) (st : Bs × Hs), spc st.1 xmlB = none → spc (ats.foldl bstep st).1 xmlB = none := by
    intro ats
    induction ats with
    | nil => intro st h; exact h
    | cons a ats ih => intro st h; exact ih _ (bstep_xml st a h)
  exact this ats (l, []) h
end Go.Proofs.Ytgidbmiahckleaa
