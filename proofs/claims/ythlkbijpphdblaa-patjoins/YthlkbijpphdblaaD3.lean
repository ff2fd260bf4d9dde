/- A number of each node from those of its kids: plain. -/
import Derived.Test.YthlkbijpphdblaaD2
namespace Go.Proofs.Ythlkbijpphdblaa
open Go.RowKit
set_option linter.unusedVariables false

mutual
def fdF (wk : Nd → List Int → Int) : Nd → Int
  | .nd k s a b ks => wk (.nd k s a b ks) (if hasK k = true then fdL wk ks else [])
def fdL (wk : Nd → List Int → Int) : List Nd → List Int
  | [] => []
  | x :: l => fdF wk x :: fdL wk l
end
mutual
def wtF : Nd → Nat
  | .nd k s a b ks => 2 + (if hasK k = true then wtL ks else 0)
def wtL : List Nd → Nat
  | [] => 0
  | x :: l => wtF x + wtL l
end
theorem fdL_map (wk : Nd → List Int → Int) : ∀ l, fdL wk l = l.map (fdF wk)
  | [] => rfl
  | x :: l => by show fdF wk x :: fdL wk l = _; rw [fdL_map wk l]; rfl
theorem fdF_eq (wk : Nd → List Int → Int) (n : Nd) : fdF wk n = wk n (n.kds.map (fdF wk)) := by
  obtain ⟨k, s, a, b, ks⟩ := n
  show wk (.nd k s a b ks) (if hasK k = true then fdL wk ks else []) = _
  unfold Nd.kds
  show _ = wk _ ((if hasK k = true then ks else []).map (fdF wk))
  by_cases h : hasK k = true
  · rw [if_pos h, if_pos h, fdL_map]
  · rw [if_neg h, if_neg h]; rfl
theorem wtL_sum : ∀ l : List Nd, wtL l = (l.map wtF).sum
  | [] => rfl
  | x :: l => by show wtF x + wtL l = _; rw [wtL_sum l]; simp
theorem wtF_eq (n : Nd) : wtF n = 2 + (n.kds.map wtF).sum := by
  obtain ⟨k, s, a, b, ks⟩ := n
  show 2 + (if hasK k = true then wtL ks else 0) = _
  unfold Nd.kds
  show _ = 2 + ((if hasK k = true then ks else []).map wtF).sum
  by_cases h : hasK k = true
  · rw [if_pos h, if_pos h, wtL_sum]
  · rw [if_neg h, if_neg h]; rfl
theorem le_sum : ∀ (l : List Nd) (x : Nd), x ∈ l → wtF x ≤ (l.map wtF).sum
  | [], x, h => by simp at h
  | y :: l, x, h => by
    rcases List.mem_cons.1 h with h | h
    · subst h; simp
    · have := le_sum l x h; simp; omega
theorem wt_kid {n x : Nd} (h : x ∈ n.kds) : wtF x < wtF n := by
  have := le_sum _ _ h
  rw [wtF_eq n]
  omega
theorem kds_sub {n x : Nd} (h : x ∈ n.kds) : x ∈ n.kids := by
  unfold Nd.kds at h
  split at h
  · exact h
  · simp at h
/-- Slices of ranges that read as rows: one row. -/
theorem sl_uniq {w : World} {v : Value} {s t : List Rg} (h : Sl .i32 w v s) (k : Sl .i32 w v t) : s = t := by
  obtain ⟨a, c, rfl, _, h⟩ := h
  obtain ⟨a', c', e, _, k⟩ := k
  simp only [Value.slice.injEq] at e
  obtain ⟨rfl, hl, rfl⟩ := e
  apply List.ext_getElem hl
  intro j h1 h2
  rcases h with rfl | ⟨g, off, rfl, _, h⟩
  · simp at h1
  rcases k with rfl | ⟨g', off', e, _, k⟩
  · simp at h2
  simp only [Option.some.injEq, Addr.mk.injEq, and_true] at e
  obtain ⟨rfl, rfl⟩ := e
  have e1 := (h j h1).1.symm.trans (k j h2).1
  have e2 := (h j h1).2.symm.trans (k j h2).2
  simp only [Option.some.injEq, Value.int.injEq, true_and] at e1 e2
  exact Prod.ext e1 e2
/-- One tree stands at an address. -/
theorem nd_uniq {O O' : Nat → Prop} {w : World} {n : Nd} {cs : List Value} (h : NdV O w n cs) : ∀ {n' : Nd}, NdV O' w n' cs → n = n' := by
  induction h with
  | mk k a b s ks vs ad cap css hs hl hc hk hn ih =>
    intro n' h'
    generalize he : [Value.int .i64 k, vs, .int .i64 a, .int .i64 b, .slice ad ks.length cap] = cs at h'
    cases h' with
    | mk k' a' b' s' ks' vs' ad' cap' css' hs' hl' hc' hk' hn' =>
      simp only [List.cons.injEq, Value.int.injEq, Value.slice.injEq, true_and, and_true] at he
      obtain ⟨rfl, rfl, rfl, rfl, rfl, hlen, rfl⟩ := he
      have e1 := sl_uniq hs.sl hs'.sl
      have e2 : ks = ks' := by
        apply List.ext_getElem hlen
        intro j h1 h2
        refine ih j h1 (n' := ks'[j]) ?_
        have hcs : css.getD j [] = css'.getD j [] := by
          rcases hk with e | ⟨g, off, rfl, _, _, _, hcell⟩
          · rw [e] at h1; simp at h1
          rcases hk' with e | ⟨g', off', e, _, _, _, hcell'⟩
          · rw [e] at h2; simp at h2
          simp only [Option.some.injEq, Addr.mk.injEq, and_true] at e
          obtain ⟨rfl, rfl⟩ := e
          have l1 := (hn j h1).len
          have l2 := (hn' j h2).len
          apply List.ext_getElem (by rw [l1, l2])
          intro r r1 r2
          have q1 := hcell j r _ (List.getElem?_eq_getElem r1)
          have q2 := hcell' j r _ (List.getElem?_eq_getElem r2)
          rw [q1] at q2
          injection q2
        rw [hcs]
        exact hn' j h2
      subst e1
      subst e2
      rfl
theorem TrA.uniq {w : World} {g off : Nat} {n n' : Nd} (h : TrA w g off n) (h' : TrA w g off n') : n = n' := by
  obtain ⟨O, cs, hn, hc, _⟩ := h.ex
  obtain ⟨O', cs', hn', hc', _⟩ := h'.ex
  have l1 := hn.len
  have l2 := hn'.len
  have e : cs = cs' := by
    apply List.ext_getElem (by rw [l1, l2])
    intro r r1 r2
    have q1 := hc r _ (List.getElem?_eq_getElem r1)
    have q2 := hc' r _ (List.getElem?_eq_getElem r2)
    rw [q1] at q2
    injection q2
  subst e
  exact nd_uniq hn hn'
abbrev adr (a : Nat × Nat) : Addr := ⟨a.1, a.2, none⟩
/-- A node on the stack: where it stands, what it is, whether its kids wait above it. -/
structure En where
  a : Nat × Nat
  n : Nd
  m : Bool
def enW (e : En) : Nat := if e.m = true then 1 else wtF e.n
/-- Where the work stands. -/
structure Fo (w : World) (wk : Nd → List Int → Int) (root : Nat × Nat) (st : List En) (F : Addr → Option Int) : Prop where
  tr : ∀ e ∈ st, TrA w e.a.1 e.a.2 e.n ∧ Sml e.n
  val : ∀ x v, F x = some v → v = -1 ∨ (0 ≤ v ∧ ∃ g off n, x = ⟨g, off, none⟩ ∧ TrA w g off n ∧ v = fdF wk n)
  wait : ∀ x, F x = some (-1) → ∃ i, ∃ h : i < st.length, adr st[i].a = x ∧ st[i].m = true
  mark : ∀ i (h : i < st.length), st[i].m = true → F (adr st[i].a) = some (-1) ∧ (∀ j (hj : j < st.length), i < j → wtF st[j].n < wtF st[i].n) ∧ ∀ p ∈ kidOf w st[i].a, (∃ v, 0 ≤ v ∧ F (adr p) = some v) ∨ ∃ j, ∃ hj : j < st.length, i < j ∧ st[j].a = p
  rt : (∃ e ∈ st, e.a = root) ∨ ∃ v, 0 ≤ v ∧ F (adr root) = some v
theorem fo_start {w : World} {wk : Nd → List Int → Int} {a : Nat × Nat} {n : Nd} (h : TrA w a.1 a.2 n) (hs : Sml n) : Fo w wk a [⟨a, n, false⟩] (fun _ => none) :=
  ⟨fun e he => by simp at he; subst he; exact ⟨h, hs⟩, fun x v q => by simp at q, fun x q => by simp at q, fun i hi hm => by
    have : i = 0 := by simpa using hi
    subst this
    simp at hm, .inl ⟨⟨a, n, false⟩, by simp, rfl⟩⟩
/-- The top one is met for the first time. -/
theorem fo_open {w : World} {wk : Nd → List Int → Int} {root : Nat × Nat} {st : List En} {e : En} {F : Addr → Option Int} {ps : List (Nat × Nat)} (h : Fo w wk root (st ++ [e]) F) (hF : F (adr e.a) = none) (hps : ps = kidOf w e.a) (hp : Pts w ps e.n.kds) :
    Fo w wk root (st ++ [⟨e.a, e.n, true⟩] ++ (ps.zip e.n.kds).map (fun p => ⟨p.1, p.2, false⟩)) (fun x => if x = adr e.a then some (-1) else F x) ∧ (((ps.zip e.n.kds).map (fun p => (⟨p.1, p.2, false⟩ : En))).map enW).sum + 2 = wtF e.n := by
  have hsml := (h.tr e (by simp)).2
  obtain ⟨K, hK⟩ : ∃ K, (ps.zip e.n.kds).map (fun p => (⟨p.1, p.2, false⟩ : En)) = K := ⟨_, rfl⟩
  have hKl : K.length = ps.length := by rw [← hK]; simp [hp.len]
  have hKj : ∀ j (hj : j < K.length), ∃ (h1 : j < ps.length) (h2 : j < e.n.kds.length), K[j].a = ps[j] ∧ K[j].n = e.n.kds[j] ∧ K[j].m = false := fun j hj => by
    have h1 : j < ps.length := by omega
    have h2 : j < e.n.kds.length := by rw [← hp.len]; exact h1
    refine ⟨h1, h2, ?_⟩
    subst hK
    simp
  have hem : e.m = false := by
    cases hm : e.m with
    | false => rfl
    | true =>
      have := h.mark st.length (by simp) (by simpa using hm)
      have q := this.1
      simp at q
      rw [hF] at q
      cases q
  rw [hK]
  refine ⟨⟨?_, ?_, ?_, ?_, ?_⟩, ?_⟩
  · intro x hx
    rcases List.mem_append.1 hx with hx | hx
    · rcases List.mem_append.1 hx with hx | hx
      · exact h.tr x (by simp [hx])
      · simp at hx
        subst hx
        exact h.tr e (by simp)
    · obtain ⟨j, hj, rfl⟩ := List.getElem_of_mem hx
      obtain ⟨h1, h2, e1, e2, e3⟩ := hKj j hj
      rw [e1, e2]
      refine ⟨hp.tr j h2 h1, ?_⟩
      cases hsml with
      | mk _ hk =>
        exact hk _ (kds_sub (List.getElem_mem h2))
  · intro x v hx
    by_cases c : x = adr e.a
    · rw [if_pos c] at hx; injection hx with hx; exact .inl hx.symm
    · rw [if_neg c] at hx; exact h.val x v hx
  · intro x hx
    by_cases c : x = adr e.a
    · exact ⟨st.length, by simp, by simp [c], by simp⟩
    · rw [if_neg c] at hx
      obtain ⟨i, hi, e1, e2⟩ := h.wait x hx
      have hi' : i < st.length := by
        simp at hi
        rcases Nat.lt_or_ge i st.length with q | q
        · exact q
        · have : i = st.length := by omega
          subst this
          simp at e1
          exact absurd e1.symm c
      refine ⟨i, by simp; omega, ?_, ?_⟩
      · rw [List.getElem_append_left (by simp; omega), List.getElem_append_left hi']
        rw [List.getElem_append_left hi'] at e1
        exact e1
      · rw [List.getElem_append_left (by simp; omega), List.getElem_append_left hi']
        rw [List.getElem_append_left hi'] at e2
        exact e2
  · intro i hi hm
    have hlen : (st ++ [(⟨e.a, e.n, true⟩ : En)] ++ K).length = st.length + 1 + K.length := by simp; omega
    have gK : ∀ j (hj : j < (st ++ [(⟨e.a, e.n, true⟩ : En)] ++ K).length), st.length < j → ∃ (q : j - (st.length + 1) < K.length), (st ++ [(⟨e.a, e.n, true⟩ : En)] ++ K)[j] = K[j - (st.length + 1)] := fun j hj q => by
      refine ⟨by omega, ?_⟩
      rw [List.getElem_append_right (by simp; omega)]
      simp
    have gE : ∀ (hj : st.length < (st ++ [(⟨e.a, e.n, true⟩ : En)] ++ K).length), (st ++ [(⟨e.a, e.n, true⟩ : En)] ++ K)[st.length] = ⟨e.a, e.n, true⟩ := fun hj => by
      rw [List.getElem_append_left (by simp)]
      simp
    have gS : ∀ j (hj : j < (st ++ [(⟨e.a, e.n, true⟩ : En)] ++ K).length) (q : j < st.length), (st ++ [(⟨e.a, e.n, true⟩ : En)] ++ K)[j] = st[j] := fun j hj q => by
      rw [List.getElem_append_left (by simp; omega), List.getElem_append_left q]
    have wK : ∀ j (hj : j < K.length), wtF K[j].n < wtF e.n := fun j hj => by
      obtain ⟨h1, h2, e1, e2, e3⟩ := hKj j hj
      rw [e2]
      exact wt_kid (List.getElem_mem h2)
    rcases Nat.lt_trichotomy i st.length with hlt | heq | hgt
    · rw [gS i hi hlt] at hm ⊢
      have hm0 : ((st ++ [e])[i]'(by simp; omega)).m = true := by rw [List.getElem_append_left hlt]; exact hm
      obtain ⟨m1, m2, m3⟩ := h.mark i (by simp; omega) hm0
      rw [List.getElem_append_left hlt] at m1 m3
      have hne : adr st[i].a ≠ adr e.a := fun q => by rw [q, hF] at m1; cases m1
      have we : wtF e.n < wtF st[i].n := by
        have := m2 st.length (by simp) hlt
        rw [List.getElem_append_left hlt] at this
        simpa using this
      refine ⟨by rw [if_neg hne]; exact m1, fun j hj hij => ?_, fun p hp' => ?_⟩
      · rcases Nat.lt_trichotomy j st.length with c | c | c
        · rw [gS j hj c]
          have := m2 j (by simp; omega) hij
          rw [List.getElem_append_left hlt, List.getElem_append_left c] at this
          exact this
        · subst c
          rw [gE hj]
          exact we
        · obtain ⟨q, e1⟩ := gK j hj c
          rw [e1]
          have := wK _ q
          omega
      · rcases m3 p hp' with ⟨v, v0, v1⟩ | ⟨j, hj, hij, hja⟩
        · refine .inl ⟨v, v0, ?_⟩
          have : adr p ≠ adr e.a := fun q => by rw [q, hF] at v1; cases v1
          rw [if_neg this]
          exact v1
        · refine .inr ⟨j, by simp at hj ⊢; omega, hij, ?_⟩
          simp at hj
          rcases Nat.lt_or_ge j st.length with c | c
          · rw [gS j _ c]
            rw [List.getElem_append_left c] at hja
            exact hja
          · have : j = st.length := by omega
            subst this
            rw [gE]
            simpa using hja
    · subst heq
      rw [gE hi] at hm ⊢
      refine ⟨by rw [if_pos rfl], fun j hj hij => ?_, fun p hp' => ?_⟩
      · obtain ⟨q, e1⟩ := gK j hj hij
        rw [e1]
        exact wK _ q
      · right
        rw [← hps] at hp'
        obtain ⟨j, hj, rfl⟩ := List.getElem_of_mem hp'
        have hjK : j < K.length := by omega
        obtain ⟨h1, h2, e1, e2, e3⟩ := hKj j hjK
        refine ⟨st.length + 1 + j, by omega, by omega, ?_⟩
        obtain ⟨q, e4⟩ := gK (st.length + 1 + j) (by omega) (by omega)
        rw [e4]
        have : st.length + 1 + j - (st.length + 1) = j := by omega
        simp only [this]
        exact e1
    · obtain ⟨q, e1⟩ := gK i hi hgt
      rw [e1] at hm
      obtain ⟨h1, h2, e2, e3, e4⟩ := hKj _ q
      rw [e4] at hm
      cases hm
  · rcases h.rt with ⟨x, hx, e1⟩ | ⟨v, v0, v1⟩
    · rcases List.mem_append.1 hx with hx | hx
      · exact .inl ⟨x, by simp [hx], e1⟩
      · simp at hx
        subst hx
        exact .inl ⟨⟨x.a, x.n, true⟩, by simp, e1⟩
    · refine .inr ⟨v, v0, ?_⟩
      have : adr root ≠ adr e.a := fun q => by rw [q, hF] at v1; cases v1
      rw [if_neg this]
      exact v1
  · rw [wtF_eq, ← hK]
    have : ((ps.zip e.n.kds).map (fun p => (⟨p.1, p.2, false⟩ : En))).map enW = e.n.kds.map wtF := by
      rw [List.map_map]
      have h2 : (enW ∘ fun p : (Nat × Nat) × Nd => (⟨p.1, p.2, false⟩ : En)) = fun p => wtF p.2 := by funext p; simp [enW]
      rw [h2]
      have h3 : (ps.zip e.n.kds).map (fun p => wtF p.2) = ((ps.zip e.n.kds).map Prod.snd).map wtF := by rw [List.map_map]; rfl
      rw [h3, List.map_snd_zip (by rw [hp.len]; exact Nat.le_refl _)]
    rw [this]
    omega
end Go.Proofs.Ythlkbijpphdblaa
