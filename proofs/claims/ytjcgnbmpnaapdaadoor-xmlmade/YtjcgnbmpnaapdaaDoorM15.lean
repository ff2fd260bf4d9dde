/- How many attributes an event has at most. -/
import Derived.Test.YtjcgnbmpnaapdaaDoorM14
namespace Go.Proofs.YtjcgnbmpnaapdaaDoor.M
open Go.Proofs.YtjcgnbmpnaapdaaDoor
set_option linter.unusedVariables false

theorem attrs_n {b : Bs} {A T : Int} : ∀ {n : Nat} {l l' : List At} {k k' : Nat} {x : Option Int}, attrsL n b A T l k = .ok (l', x) k' → (l.length : Int) ≤ A → (l'.length : Int) ≤ A
  | 0, l, l', k, k', x, h, hl => by rw [attrsL] at h; cases h
  | n + 1, l, l', k, k', x, h, hl => by
    rw [attrsL] at h
    obtain ⟨g, k1, _, h⟩ := bind_inv h
    obtain ⟨r, k2, _, h⟩ := bind_inv h
    by_cases c1 : r = 62
    · rw [if_pos c1] at h; cases h; exact hl
    rw [if_neg c1] at h
    by_cases c2 : r = 47
    · rw [if_pos c2] at h
      obtain ⟨_, k3, _, h⟩ := bind_inv h
      cases h; exact hl
    rw [if_neg c2] at h
    by_cases c3 : g = false ∨ isStart r = false
    · rw [if_pos c3] at h; cases h
    rw [if_neg c3] at h
    by_cases c4 : (l.length : Int) = A
    · rw [if_pos c4] at h; cases h
    rw [if_neg c4] at h
    obtain ⟨a, k4, _, h⟩ := bind_inv h
    exact attrs_n h (by rw [List.length_append]; simp; omega)
/-- Each event has at most so many attributes. -/
def Few (A : Int) (es : List Ev) : Prop := ∀ e ∈ es, (e.attrs.length : Int) ≤ A
theorem few_tell {A : Int} {s : S} {tag : List Ev} (hA : 0 ≤ A) (hr : s.ready = []) (h : Few A tag) : Few A (tellS s tag).ready := by
  intro e he
  unfold tellS at he
  simp only [hr, List.nil_append, List.mem_append] at he
  rcases he with he | he
  · split at he
    · simp at he
      subst he
      exact hA
    · simp at he
  · exact h e he
theorem tag_few {b : Bs} {L : Lm} {s s' : S} {lt0 k : Nat} (hA : 0 ≤ L.A) (hr : s.ready = []) (h : tagS b L s lt0 k = .go s') : Few L.A s'.ready := by
  unfold tagS at h
  obtain ⟨r, k1, _, h⟩ := q_go h
  by_cases c1 : isStart r = false
  · rw [if_pos c1] at h; cases h
  rw [if_neg c1] at h
  by_cases c2 : (s.op.length : Int) = L.D ∨ s.nodes = L.N
  · rw [if_pos c2] at h; cases h
  rw [if_neg c2] at h
  obtain ⟨nm, k2, _, h⟩ := q_go h
  obtain ⟨p, k3, hp, h⟩ := q_go h
  obtain ⟨l, x⟩ := p
  have hl := attrs_n hp (by simpa using hA)
  cases x with
  | none =>
    cases h
    refine few_tell hA ?_ ?_
    · exact hr
    · intro e he
      simp at he
      subst he
      exact hl
  | some sl =>
    cases h
    refine few_tell hA ?_ ?_
    · exact hr
    · intro e he
      simp at he
      rcases he with rfl | rfl
      · exact hl
      · exact hA
theorem end_few {b : Bs} {L : Lm} {s s' : S} {lt0 k : Nat} (hA : 0 ≤ L.A) (hr : s.ready = []) (h : endS b L s lt0 k = .go s') : Few L.A s'.ready := by
  unfold endS at h
  obtain ⟨nm, k1, _, h⟩ := q_go h
  split at h
  · cases h
  obtain ⟨_, k2, _, h⟩ := q_go h
  obtain ⟨_, k3, _, h⟩ := q_go h
  cases h
  refine few_tell hA hr ?_
  intro e he
  simp at he
  subst he
  exact hA
theorem few_nil {A : Int} {es : List Ev} (h : es = []) : Few A es := by subst h; intro e he; simp at he
theorem begin_ready (s : S) (k : Int) : (beginS s k).ready = s.ready := by unfold beginS; split <;> rfl
theorem put_few {L : Lm} {s s' : S} {r : Int} {k : Nat} {A : Int} (hr : s.ready = []) (h : putQ L s r k = .go s') : Few A s'.ready := by
  unfold putQ at h
  obtain ⟨o, k1, _, h⟩ := q_go h
  cases h
  exact few_nil hr
theorem read_few {b : Bs} {L : Lm} {s s' : S} (hA : 0 ≤ L.A) (hr : s.ready = []) (h : readS b L s = .go s') : Few L.A s'.ready := by
  have hout : ∀ {s1 : S}, s1.ready = [] → outS b L s1 = .go s' → Few L.A s'.ready := by
    intro s1 hr1 h
    unfold outS at h
    obtain ⟨_, k1, _, h⟩ := q_go h
    split at h
    · cases h; exact few_nil hr1
    obtain ⟨_, k2, _, h⟩ := q_go h
    obtain ⟨r, k3, _, h⟩ := q_go h
    split at h
    · obtain ⟨_, k4, _, h⟩ := q_go h; cases h; exact few_nil hr1
    split at h
    · obtain ⟨_, k4, _, h⟩ := q_go h; cases h; exact few_nil hr1
    split at h
    · cases h
    split at h
    · cases h
    exact tag_few hA hr1 h
  unfold readS at h
  split at h
  · unfold contS at h
    obtain ⟨r, k1, _, h⟩ := q_go h
    split at h
    · unfold markS at h
      obtain ⟨r2, k2, _, h⟩ := q_go h
      split at h
      · obtain ⟨_, k3, _, h⟩ := q_go h; cases h; exact few_nil hr
      split at h
      · unfold bangS at h
        obtain ⟨r3, k3, _, h⟩ := q_go h
        split at h
        · unfold cdS at h
          obtain ⟨_, k4, _, h⟩ := q_go h
          obtain ⟨_, k5, _, h⟩ := q_go h
          cases h
          exact few_nil ((begin_ready s _).trans hr)
        · obtain ⟨_, k4, _, h⟩ := q_go h; cases h; exact few_nil hr
      split at h
      · exact end_few hA hr h
      · exact tag_few hA hr h
    split at h
    · obtain ⟨_, k2, _, h⟩ := q_go h
      exact put_few ((begin_ready s _).trans hr) h
    split at h
    · cases h
    · obtain ⟨_, k2, _, h⟩ := q_go h
      exact put_few ((begin_ready s _).trans hr) h
  · split at h
    · obtain ⟨_, k1, _, h⟩ := q_go h
      exact hout (s1 := { s with k := k1 }) hr h
    · exact hout hr h
theorem run_few {b : Bs} {L : Lm} (hA : 0 ≤ L.A) : ∀ (n : Nat) (s : S), s.ready = [] → Few L.A (runS n b L s).1
  | 0, s, hr => by rw [runS]; exact few_nil rfl
  | n + 1, s, hr => by
    rcases Bool.eq_false_or_eq_true s.over with ho | ho
    · rw [run_over ho]; exact few_nil rfl
    · cases hx : readS b L s with
      | bad p e => rw [run_bad ho hx]; exact few_nil rfl
      | go s1 =>
        rw [run_go ho hx]
        have h1 := read_few hA hr hx
        have h2 := run_few (b := b) hA n { s1 with ready := [] } rfl
        intro e he
        simp only [List.mem_append] at he
        rcases he with he | he
        · exact h1 e he
        · exact h2 e he
theorem all_few (b : Bs) {L : Lm} (hA : 0 ≤ L.A) : Few L.A (allB b L).1 := by
  by_cases h : b.length ≤ 65536
  · rw [allB_run h (b.length + 2) (by omega)]
    exact run_few hA _ _ rfl
  · unfold allB
    rw [if_pos (by omega)]
    exact few_nil rfl
end Go.Proofs.YtjcgnbmpnaapdaaDoor.M
