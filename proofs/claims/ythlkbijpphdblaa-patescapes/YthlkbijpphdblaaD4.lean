/- The work goes on: a node is left. -/
import Derived.Test.YthlkbijpphdblaaD3
namespace Go.Proofs.Ythlkbijpphdblaa
open Go.RowKit
set_option linter.unusedVariables false

theorem fo_kid {w : World} {wk : Nd → List Int → Int} {root : Nat × Nat} {st : List En} {F : Addr → Option Int} (h : Fo w wk root st F) {p : Nat × Nat} {x : Nd} {v : Int} (hF : F (adr p) = some v) (hv : 0 ≤ v) (ht : TrA w p.1 p.2 x) : v = fdF wk x := by
  rcases h.val _ _ hF with q | ⟨_, g, off, n, e, hn, hv2⟩
  · omega
  · simp only [Addr.mk.injEq, and_true] at e
    obtain ⟨rfl, rfl⟩ := e
    rw [hv2, ht.uniq hn]
/-- What was worked out already is left. -/
theorem fo_pop {w : World} {wk : Nd → List Int → Int} {root : Nat × Nat} {st : List En} {e : En} {F : Addr → Option Int} {v : Int} (h : Fo w wk root (st ++ [e]) F) (hF : F (adr e.a) = some v) (hv : v ≠ -1) : Fo w wk root st F := by
  have hv0 : 0 ≤ v := by
    rcases h.val _ _ hF with q | q
    · exact absurd q hv
    · exact q.1
  have hlen : (st ++ [e]).length = st.length + 1 := by simp
  have gS : ∀ j (hj : j < (st ++ [e]).length) (q : j < st.length), (st ++ [e])[j] = st[j] := fun j hj q => List.getElem_append_left q
  have gE : ∀ (hj : st.length < (st ++ [e]).length), (st ++ [e])[st.length] = e := fun hj => by simp
  refine ⟨fun x hx => h.tr x (by simp [hx]), h.val, fun x hx => ?_, fun i hi hm => ?_, ?_⟩
  · obtain ⟨i, hi, e1, e2⟩ := h.wait x hx
    rcases Nat.lt_or_ge i st.length with c | c
    · rw [gS i hi c] at e1 e2
      exact ⟨i, c, e1, e2⟩
    · have : i = st.length := by omega
      subst this
      rw [gE hi] at e1
      rw [← e1, hF] at hx
      injection hx with hx
      exact absurd hx hv
  · have hm0 : ((st ++ [e])[i]'(by omega)).m = true := by rw [gS i _ hi]; exact hm
    obtain ⟨m1, m2, m3⟩ := h.mark i (by omega) hm0
    rw [gS i _ hi] at m1 m3
    refine ⟨m1, fun j hj hij => ?_, fun p hp => ?_⟩
    · have := m2 j (by omega) hij
      rw [gS i _ hi, gS j _ hj] at this
      exact this
    · rcases m3 p hp with q | ⟨j, hj, hij, hja⟩
      · exact .inl q
      · rcases Nat.lt_or_ge j st.length with c | c
        · rw [gS j hj c] at hja
          exact .inr ⟨j, c, hij, hja⟩
        · have : j = st.length := by omega
          subst this
          rw [gE hj] at hja
          exact .inl ⟨v, hv0, by rw [← hja]; exact hF⟩
  · rcases h.rt with ⟨x, hx, e1⟩ | q
    · rcases List.mem_append.1 hx with hx | hx
      · exact .inl ⟨x, hx, e1⟩
      · simp at hx
        subst hx
        exact .inr ⟨v, hv0, by rw [← e1]; exact hF⟩
    · exact .inr q
/-- A node whose kids are worked out. -/
theorem fo_done {w : World} {wk : Nd → List Int → Int} {root : Nat × Nat} {st : List En} {e : En} {F : Addr → Option Int} (h : Fo w wk root (st ++ [e]) F) (hF : F (adr e.a) = some (-1)) (hw : 0 ≤ fdF wk e.n) : (∀ p ∈ kidOf w e.a, ∃ v, 0 ≤ v ∧ F (adr p) = some v) ∧ Fo w wk root st (fun x => if x = adr e.a then some (fdF wk e.n) else F x) := by
  have hlen : (st ++ [e]).length = st.length + 1 := by simp
  have gS : ∀ j (hj : j < (st ++ [e]).length) (q : j < st.length), (st ++ [e])[j] = st[j] := fun j hj q => List.getElem_append_left q
  have gE : ∀ (hj : st.length < (st ++ [e]).length), (st ++ [e])[st.length] = e := fun hj => by simp
  have htr := (h.tr e (by simp)).1
  have huni : ∀ i (hi : i < st.length), st[i].m = true → adr st[i].a ≠ adr e.a := fun i hi hm q => by
    have hm0 : ((st ++ [e])[i]'(by omega)).m = true := by rw [gS i _ hi]; exact hm
    obtain ⟨_, m2, _⟩ := h.mark i (by omega) hm0
    have := m2 st.length (by omega) hi
    rw [gS i _ hi, gE] at this
    have hti := (h.tr st[i] (by simp)).1
    simp only [Addr.mk.injEq, and_true] at q
    rw [q.1, q.2] at hti
    rw [hti.uniq htr] at this
    omega
  have htop : e.m = true := by
    obtain ⟨i, hi, e1, e2⟩ := h.wait _ hF
    rcases Nat.lt_or_ge i st.length with c | c
    · rw [gS i hi c] at e1 e2
      exact absurd e1 (huni i c e2)
    · have : i = st.length := by omega
      subst this
      rw [gE hi] at e2
      exact e2
  constructor
  · intro p hp
    have hm0 : ((st ++ [e])[st.length]'(by omega)).m = true := by rw [gE]; exact htop
    obtain ⟨_, _, m3⟩ := h.mark st.length (by omega) hm0
    rw [gE] at m3
    rcases m3 p hp with q | ⟨j, hj, hij, _⟩
    · exact q
    · omega
  · refine ⟨fun x hx => h.tr x (by simp [hx]), fun x v hx => ?_, fun x hx => ?_, fun i hi hm => ?_, ?_⟩
    · by_cases c : x = adr e.a
      · rw [if_pos c] at hx
        injection hx with hx
        subst hx
        exact .inr ⟨hw, e.a.1, e.a.2, e.n, c, htr, rfl⟩
      · rw [if_neg c] at hx
        exact h.val x v hx
    · by_cases c : x = adr e.a
      · rw [if_pos c] at hx
        injection hx with hx
        omega
      · rw [if_neg c] at hx
        obtain ⟨i, hi, e1, e2⟩ := h.wait x hx
        rcases Nat.lt_or_ge i st.length with q | q
        · rw [gS i hi q] at e1 e2
          exact ⟨i, q, e1, e2⟩
        · have : i = st.length := by omega
          subst this
          rw [gE hi] at e1
          exact absurd e1.symm c
    · have hm0 : ((st ++ [e])[i]'(by omega)).m = true := by rw [gS i _ hi]; exact hm
      obtain ⟨m1, m2, m3⟩ := h.mark i (by omega) hm0
      rw [gS i _ hi] at m1 m3
      refine ⟨by rw [if_neg (huni i hi hm)]; exact m1, fun j hj hij => ?_, fun p hp => ?_⟩
      · have := m2 j (by omega) hij
        rw [gS i _ hi, gS j _ hj] at this
        exact this
      · by_cases c : adr p = adr e.a
        · exact .inl ⟨_, hw, by rw [if_pos c]⟩
        rcases m3 p hp with ⟨v, v0, v1⟩ | ⟨j, hj, hij, hja⟩
        · exact .inl ⟨v, v0, by rw [if_neg c]; exact v1⟩
        · rcases Nat.lt_or_ge j st.length with q | q
          · rw [gS j hj q] at hja
            exact .inr ⟨j, q, hij, hja⟩
          · have : j = st.length := by omega
            subst this
            rw [gE hj] at hja
            exact absurd (by rw [hja]) c
    · rcases h.rt with ⟨x, hx, e1⟩ | ⟨v, v0, v1⟩
      · rcases List.mem_append.1 hx with hx | hx
        · exact .inl ⟨x, hx, e1⟩
        · simp at hx
          subst hx
          exact .inr ⟨_, hw, by rw [← e1, if_pos rfl]⟩
      · refine .inr ⟨v, v0, ?_⟩
        have : adr root ≠ adr e.a := fun q => by rw [q, hF] at v1; injection v1 with v1; omega
        rw [if_neg this]
        exact v1
/-- The work's end. -/
theorem fo_end {w : World} {wk : Nd → List Int → Int} {root : Nat × Nat} {n : Nd} {F : Addr → Option Int} (h : Fo w wk root [] F) (ht : TrA w root.1 root.2 n) : F (adr root) = some (fdF wk n) := by
  rcases h.rt with ⟨x, hx, _⟩ | ⟨v, v0, v1⟩
  · simp at hx
  · rw [v1, fo_kid h v1 v0 ht]
end Go.Proofs.Ythlkbijpphdblaa
