/- What is bound as a function; what an element hides, and what comes back: plain. -/
import Derived.Test.YtgidbmiahckleaaNs15
namespace Go.Proofs.Ytgidbmiahckleaa
set_option linter.unusedVariables false
set_option linter.unusedSimpArgs false

theorem bq {a b : ByteArray} : (a == b) = true ↔ a = b := Go.MapKept.bytes_beq a b
theorem bqf {a b : ByteArray} : (a == b) = false ↔ a ≠ b := by
  constructor
  · intro h e
    rw [bq.2 e] at h
    exact Bool.noConfusion h
  · intro h
    cases hb : (a == b) with
    | false => rfl
    | true => exact absurd (bq.1 hb) h
/-- No key twice. -/
def NK {α : Type} (l : List (ByteArray × α)) : Prop := (l.map (·.1)).Nodup
def lkp {α : Type} (l : List (ByteArray × α)) (s : ByteArray) : Option α := (l.find? (fun p => s == p.1)).map (·.2)
theorem spc_lkp (l : Bs) (s : ByteArray) : spc l s = lkp l s := rfl
theorem lkp_cons {α : Type} (p : ByteArray × α) (l : List (ByteArray × α)) (s : ByteArray) : lkp (p :: l) s = if s = p.1 then some p.2 else lkp l s := by
  unfold lkp
  rw [List.find?_cons]
  by_cases h : s = p.1
  · rw [bq.2 h, if_pos h]; rfl
  · rw [bqf.2 h, if_neg h]
theorem lkp_mem {α : Type} : ∀ {l : List (ByteArray × α)}, NK l → ∀ {s : ByteArray} {v : α}, lkp l s = some v ↔ (s, v) ∈ l
  | [], _, s, v => by simp [lkp]
  | p :: l, h, s, v => by
    obtain ⟨k, x⟩ := p
    rw [lkp_cons]
    unfold NK at h
    rw [List.map_cons, List.nodup_cons] at h
    by_cases hs : s = k
    · subst hs
      rw [if_pos rfl]
      simp only [List.mem_cons, Prod.mk.injEq, true_and, Option.some.injEq]
      constructor
      · intro e; exact .inl e.symm
      · rintro (e | e)
        · exact e.symm
        · exact absurd (List.mem_map_of_mem (f := (·.1)) e) h.1
    · rw [if_neg hs, lkp_mem h.2]
      simp [hs]
theorem lkp_none {α : Type} : ∀ {l : List (ByteArray × α)} {s : ByteArray}, lkp l s = none ↔ s ∉ l.map (·.1)
  | [], s => by simp [lkp]
  | p :: l, s => by
    rw [lkp_cons]
    by_cases hs : s = p.1
    · rw [if_pos hs]; simp [hs]
    · rw [if_neg hs, lkp_none]; simp [hs]
theorem perm_of {l l' : Bs} (h : NK l) (h' : NK l') (e : ∀ s, spc l s = spc l' s) : l.Perm l' := by
  have n1 : l.Nodup := List.Pairwise.imp (fun hab e => hab (by rw [e])) (List.pairwise_map.1 h)
  have n2 : l'.Nodup := List.Pairwise.imp (fun hab e => hab (by rw [e])) (List.pairwise_map.1 h')
  rw [List.perm_ext_iff_of_nodup n1 n2]
  rintro ⟨s, v⟩
  rw [← lkp_mem h, ← lkp_mem h', ← spc_lkp, ← spc_lkp, e s]
theorem setB_keys (s v : ByteArray) : ∀ l : Bs, (s ∈ l.map (·.1) ∧ (setB l s v).map (·.1) = l.map (·.1)) ∨ (s ∉ l.map (·.1) ∧ (setB l s v).map (·.1) = l.map (·.1) ++ [s])
  | [] => by simp [setB]
  | p :: l => by
    unfold setB
    by_cases h : s = p.1
    · rw [if_pos (bq.2 h)]; simp [h]
    · have hb := bqf.2 h
      rw [hb, if_neg (by simp)]
      rcases setB_keys s v l with ⟨h1, h2⟩ | ⟨h1, h2⟩
      · exact .inl ⟨by rw [List.map_cons, List.mem_cons]; exact .inr h1, by rw [List.map_cons, h2, List.map_cons]⟩
      · exact .inr ⟨by rw [List.map_cons, List.mem_cons, not_or]; exact ⟨h, h1⟩, by rw [List.map_cons, h2, List.map_cons]; rfl⟩
theorem setB_nk {l : Bs} (h : NK l) (s v : ByteArray) : NK (setB l s v) := by
  unfold NK at *
  rcases setB_keys s v l with ⟨h1, h2⟩ | ⟨h1, h2⟩
  · rw [h2]; exact h
  · rw [h2, List.nodup_append]
    exact ⟨h, by simp, fun a ha b hb e => by simp at hb; rw [e, hb] at ha; exact h1 ha⟩
theorem setB_spc (s v t : ByteArray) : ∀ l : Bs, spc (setB l s v) t = if t = s then some v else spc l t
  | [] => by
    rw [setB, spc_lkp, spc_lkp, lkp_cons]
  | p :: l => by
    unfold setB
    have ih := setB_spc s v t l
    rw [spc_lkp, spc_lkp] at ih
    by_cases h : s = p.1
    · rw [if_pos (bq.2 h), spc_lkp, spc_lkp, lkp_cons, lkp_cons]
      by_cases ht : t = s
      · rw [if_pos ht, if_pos ht]
      · rw [if_neg ht, if_neg ht, if_neg (by rw [← h]; exact ht)]
    · rw [bqf.2 h, if_neg (by simp), spc_lkp, spc_lkp, lkp_cons, lkp_cons, ih]
      by_cases ht : t = p.1
      · rw [if_pos ht, if_pos ht, if_neg (by rw [ht]; exact fun e => h e.symm)]
      · rw [if_neg ht, if_neg ht]
theorem setB_len (s v : ByteArray) : ∀ l : Bs, (setB l s v).length ≤ l.length + 1
  | [] => by simp [setB]
  | p :: l => by
    unfold setB
    have := setB_len s v l
    split <;> simp <;> omega
theorem unB_sub (s : ByteArray) : ∀ l : Bs, (unB l s).Sublist l
  | [] => List.Sublist.refl _
  | p :: l => by
    unfold unB
    split
    · exact List.sublist_cons_self _ _
    · exact (unB_sub s l).cons_cons _
theorem unB_nk {l : Bs} (h : NK l) (s : ByteArray) : NK (unB l s) := ((unB_sub s l).map _).nodup h
theorem unB_spc (s t : ByteArray) : ∀ l : Bs, NK l → spc (unB l s) t = if t = s then none else spc l t
  | [], _ => by simp [unB, spc]
  | p :: l, hn => by
    have hn' : NK l := by unfold NK at *; rw [List.map_cons, List.nodup_cons] at hn; exact hn.2
    have hp : p.1 ∉ l.map (·.1) := by unfold NK at hn; rw [List.map_cons, List.nodup_cons] at hn; exact hn.1
    have ih := unB_spc s t l hn'
    rw [spc_lkp, spc_lkp] at ih
    unfold unB
    by_cases h : s = p.1
    · rw [if_pos (bq.2 h), spc_lkp, spc_lkp, lkp_cons]
      by_cases ht : t = s
      · rw [if_pos ht, ht, h]
        exact lkp_none.2 hp
      · rw [if_neg ht, if_neg (by rw [← h]; exact ht)]
    · rw [bqf.2 h, if_neg (by simp), spc_lkp, spc_lkp, lkp_cons, lkp_cons, ih]
      by_cases ht : t = p.1
      · rw [if_pos ht, if_pos ht, if_neg (by rw [ht]; exact fun e => h e.symm)]
      · rw [if_neg ht, if_neg ht]
abbrev Sg := ByteArray → Option ByteArray
/-- What is bound again behind an element's end. -/
def rst (σ : Sg) (h : Hs) : Sg := fun s => (lkp h s).getD (σ s)
theorem backB_nk {l : Bs} (h : NK l) (p : ByteArray × Option ByteArray) : NK (backB l p) := by
  unfold backB
  cases p.2 with
  | none => exact unB_nk h _
  | some v => exact setB_nk h _ _
theorem backB_spc {l : Bs} (h : NK l) (p : ByteArray × Option ByteArray) (t : ByteArray) : spc (backB l p) t = if t = p.1 then p.2 else spc l t := by
  unfold backB
  cases hp : p.2 with
  | none => exact unB_spc _ _ _ h
  | some v => exact setB_spc _ _ _ _
theorem back_nk : ∀ (h : Hs) {l : Bs}, NK l → NK (back l h)
  | [], l, hl => hl
  | p :: h, l, hl => back_nk h (backB_nk hl p)
theorem back_spc : ∀ (h : Hs) {l : Bs}, NK l → NK h → ∀ s, spc (back l h) s = rst (spc l) h s
  | [], l, hl, _, s => rfl
  | p :: h, l, hl, hh, s => by
    have hh' : NK h := by unfold NK at *; rw [List.map_cons, List.nodup_cons] at hh; exact hh.2
    have hp : p.1 ∉ h.map (·.1) := by unfold NK at hh; rw [List.map_cons, List.nodup_cons] at hh; exact hh.1
    have e : back l (p :: h) = back (backB l p) h := rfl
    rw [e, back_spc h (backB_nk hl p) hh']
    unfold rst
    rw [lkp_cons, backB_spc hl]
    by_cases hs : s = p.1
    · rw [if_pos hs, if_pos hs, hs, lkp_none.2 hp]
      rfl
    · rw [if_neg hs, if_neg hs]
theorem lkp_perm {α : Type} {h h' : List (ByteArray × α)} (hp : h'.Perm h) (hn : NK h) (s : ByteArray) : lkp h' s = lkp h s := by
  have hn' : NK h' := (hp.map _).nodup_iff.2 hn
  cases e : lkp h s with
  | none =>
    rw [lkp_none] at e ⊢
    exact fun q => e ((hp.map _).mem_iff.1 q)
  | some v => exact (lkp_mem hn').2 (hp.mem_iff.2 ((lkp_mem hn).1 e))
theorem rst_perm {σ : Sg} {h h' : Hs} (hp : h'.Perm h) (hn : NK h) : rst σ h' = rst σ h := by
  funext s
  unfold rst
  rw [lkp_perm hp hn]
theorem back_perm {l : Bs} {h h' : Hs} (hl : NK l) (hh : NK h) (hp : h'.Perm h) : NK (back l h') ∧ ∀ s, spc (back l h') s = rst (spc l) h s := by
  refine ⟨back_nk h' hl, fun s => ?_⟩
  rw [back_spc h' hl ((hp.map _).nodup_iff.2 hh), rst_perm hp hh]
/-- What bind leaves: no key twice; what is hidden is what was; all that is hidden is bound. -/
structure BG (σ0 : Sg) (l : Bs) (h : Hs) : Prop where
  nl : NK l
  nh : NK h
  rs : ∀ s, rst (spc l) h s = σ0 s
  bd : ∀ p ∈ h, (spc l p.1).isSome = true
theorem has_iff (h : Hs) (s : ByteArray) : has h s = true ↔ s ∈ h.map (·.1) := by
  unfold has
  rw [List.any_eq_true]
  constructor
  · rintro ⟨q, hq, e⟩
    rw [bq.1 e]
    exact List.mem_map_of_mem hq
  · intro hm
    rw [List.mem_map] at hm
    obtain ⟨q, hq, rfl⟩ := hm
    exact ⟨q, hq, bq.2 rfl⟩
theorem BG.step {σ0 : Sg} {l : Bs} {h : Hs} (hg : BG σ0 l h) (a : ByteArray × ByteArray) : BG σ0 (bstep (l, h) a).1 (bstep (l, h) a).2 ∧ (bstep (l, h) a).1.length ≤ l.length + 1 := by
  unfold bstep
  split
  · exact ⟨hg, by simp⟩
  · split
    · exact ⟨hg, by simp⟩
    · rename_i hh
      split
      · exact ⟨hg, by simp⟩
      · dsimp only
        have hk : (bindS a.1).1 ∉ h.map (·.1) := fun q => hh ((has_iff h _).2 q)
        generalize (bindS a.1).1 = k at *
        refine ⟨⟨setB_nk hg.nl _ _, ?_, fun s => ?_, fun p hp => ?_⟩, setB_len _ _ _⟩
        · unfold NK
          rw [List.map_append, List.nodup_append]
          exact ⟨hg.nh, by simp, fun x hx y hy e => by simp at hy; rw [e, hy] at hx; exact hk hx⟩
        · have h0 := hg.rs s
          unfold rst at h0 ⊢
          have e : lkp (h ++ [(k, spc l k)]) s = if s = k then some (spc l k) else lkp h s := by
            by_cases hs : s = k
            · rw [if_pos hs, hs]
              have hn2 : NK (h ++ [(k, spc l k)]) := by
                unfold NK
                rw [List.map_append, List.nodup_append]
                exact ⟨hg.nh, by simp, fun x hx y hy e => by simp at hy; rw [e, hy] at hx; exact hk hx⟩
              exact (lkp_mem hn2).2 (by simp)
            · rw [if_neg hs]
              unfold lkp
              rw [List.find?_append]
              have : ([(k, spc l k)] : Hs).find? (fun p => s == p.1) = none := by
                rw [List.find?_cons, bqf.2 hs]; rfl
              rw [this, Option.or_none]
          rw [e, setB_spc]
          by_cases hs : s = k
          · rw [if_pos hs, if_pos hs, ← h0, hs, lkp_none.2 hk]
            rfl
          · rw [if_neg hs, if_neg hs]
            exact h0
        · rw [setB_spc]
          rw [List.mem_append] at hp
          rcases hp with hp | hp
          · have := hg.bd p hp
            split
            · rfl
            · exact this
          · simp at hp
            rw [hp, if_pos rfl]
            rfl
theorem binds_bg (ats : Bs) : ∀ (σ0 : Sg) (l : Bs) (h : Hs), BG σ0 l h → BG σ0 (ats.foldl bstep (l, h)).1 (ats.foldl bstep (l, h)).2 ∧ (ats.foldl bstep (l, h)).1.length ≤ l.length + ats.length := by
  induction ats with
  | nil => intro σ0 l h hg; exact ⟨hg, by simp⟩
  | cons a ats ih =>
    intro σ0 l h hg
    rw [List.foldl_cons]
    obtain ⟨h1, h2⟩ := hg.step a
    obtain ⟨h3, h4⟩ := ih σ0 _ _ h1
    refine ⟨h3, ?_⟩
    rw [List.length_cons]
    have e : bstep (l, h) a = ((bstep (l, h) a).1, (bstep (l, h) a).2) := rfl
    rw [e]
    omega
theorem binds_g {l : Bs} (hl : NK l) (ats : Bs) : BG (spc l) (binds l ats).1 (binds l ats).2 ∧ (binds l ats).1.length ≤ l.length + ats.length :=
  binds_bg ats (spc l) l [] ⟨hl, by simp [NK], fun s => rfl, fun p hp => by simp at hp⟩
/-- What a scope's stack (the innermost first) holds, sound. -/
def Good : Sg → List Hs → Prop
  | _, [] => True
  | σ, h :: t => NK h ∧ (∀ p ∈ h, (σ p.1).isSome = true) ∧ Good (rst σ h) t
def unw : Sg → List Hs → Sg
  | σ, [] => σ
  | σ, h :: t => unw (rst σ h) t
theorem nonnil {l : Bs} {h : Hs} (hb : ∀ p ∈ h, (spc l p.1).isSome = true) : h ≠ [] → l ≠ [] := by
  intro hh e
  subst e
  cases h with
  | nil => exact hh rfl
  | cons p h => exact absurd (hb p (by simp)) (by simp [spc])
end Go.Proofs.Ytgidbmiahckleaa
