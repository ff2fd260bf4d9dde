/- Joined: D4, D5. -/
import Derived.Test.YthlkbijpphdblaaD3
namespace Go.Proofs.Ythlkbijpphdblaa
open Go.RowKit
set_option linter.unusedVariables false

theorem fo_kid {w : World} {wk : Nd → List Int → Int} {root : Nat × Nat} {st : List En} {F : Addr → Option Int} (h : Fo w wk root st F) {p : Nat × Nat} {x : Nd} {v : Int} (hF : F (adr p) = some v) (hv : 0 ≤ v) (ht : TrA w p.1 p.2 x) : v = fdF wk x := by
  rcases h.val _ _ hF with q | ⟨_, g, off, n, e, hn, hv2⟩
  · omega
  · simp only [Addr.mk.injEq, and_true] at e
    obtain ⟨rfl, rfl⟩ := e
    rw [hv2, ht.uniq hn]
/-- What was worked out already is left. -/
theorem fo_pop {w : World} {wk : Nd → List Int → Int} {root : Nat × Nat} {st : List En} {e : En} {F : Addr → Option Int} {v : Int} (h : Fo w wk root (st ++ [e]) F) (hF : F (adr e.a) = some v) (hv : v ≠ -1) : Fo w wk root st F := by
  have hv0 : 0 ≤ v := by
    rcases h.val _ _ hF with q | q
    · exact absurd q hv
    · exact q.1
  have hlen : (st ++ [e]).length = st.length + 1 := by simp
  have gS : ∀ j (hj : j < (st ++ [e]).length) (q : j < st.length), (st ++ [e])[j] = st[j] := fun j hj q => List.getElem_append_left q
  have gE : ∀ (hj : st.length < (st ++ [e]).length), (st ++ [e])[st.length] = e := fun hj => by simp
  refine ⟨fun x hx => h.tr x (by simp [hx]), h.val, fun x hx => ?_, fun i hi hm => ?_, ?_⟩
  · obtain ⟨i, hi, e1, e2⟩ := h.wait x hx
    rcases Nat.lt_or_ge i st.length with c | c
    · rw [gS i hi c] at e1 e2
      exact ⟨i, c, e1, e2⟩
    · have : i = st.length := by omega
      subst this
      rw [gE hi] at e1
      rw [← e1, hF] at hx
      injection hx with hx
      exact absurd hx hv
  · have hm0 : ((st ++ [e])[i]'(by omega)).m = true := by rw [gS i _ hi]; exact hm
    obtain ⟨m1, m2, m3⟩ := h.mark i (by omega) hm0
    rw [gS i _ hi] at m1 m3
    refine ⟨m1, fun j hj hij => ?_, fun p hp => ?_⟩
    · have := m2 j (by omega) hij
      rw [gS i _ hi, gS j _ hj] at this
      exact this
    · rcases m3 p hp with q | ⟨j, hj, hij, hja⟩
      · exact .inl q
      · rcases Nat.lt_or_ge j st.length with c | c
        · rw [gS j hj c] at hja
          exact .inr ⟨j, c, hij, hja⟩
        · have : j = st.length := by omega
          subst this
          rw [gE hj] at hja
          exact .inl ⟨v, hv0, by rw [← hja]; exact hF⟩
  · rcases h.rt with ⟨x, hx, e1⟩ | q
    · rcases List.mem_append.1 hx with hx | hx
      · exact .inl ⟨x, hx, e1⟩
      · simp at hx
        subst hx
        exact .inr ⟨v, hv0, by rw [← e1]; exact hF⟩
    · exact .inr q
/-- A node whose kids are worked out. -/
theorem fo_done {w : World} {wk : Nd → List Int → Int} {root : Nat × Nat} {st : List En} {e : En} {F : Addr → Option Int} (h : Fo w wk root (st ++ [e]) F) (hF : F (adr e.a) = some (-1)) (hw : 0 ≤ fdF wk e.n) : (∀ p ∈ kidOf w e.a, ∃ v, 0 ≤ v ∧ F (adr p) = some v) ∧ Fo w wk root st (fun x => if x = adr e.a then some (fdF wk e.n) else F x) := by
  have hlen : (st ++ [e]).length = st.length + 1 := by simp
  have gS : ∀ j (hj : j < (st ++ [e]).length) (q : j < st.length), (st ++ [e])[j] = st[j] := fun j hj q => List.getElem_append_left q
  have gE : ∀ (hj : st.length < (st ++ [e]).length), (st ++ [e])[st.length] = e := fun hj => by simp
  have htr := (h.tr e (by simp)).1
  have huni : ∀ i (hi : i < st.length), st[i].m = true → adr st[i].a ≠ adr e.a := fun i hi hm q => by
    have hm0 : ((st ++ [e])[i]'(by omega)).m = true := by rw [gS i _ hi]; exact hm
    obtain ⟨_, m2, _⟩ := h.mark i (by omega) hm0
    have := m2 st.length (by omega) hi
    rw [gS i _ hi, gE] at this
    have hti := (h.tr st[i] (by simp)).1
    simp only [Addr.mk.injEq, and_true] at q
    rw [q.1, q.2] at hti
    rw [hti.uniq htr] at this
    omega
  have htop : e.m = true := by
    obtain ⟨i, hi, e1, e2⟩ := h.wait _ hF
    rcases Nat.lt_or_ge i st.length with c | c
    · rw [gS i hi c] at e1 e2
      exact absurd e1 (huni i c e2)
    · have : i = st.length := by omega
      subst this
      rw [gE hi] at e2
      exact e2
  constructor
  · intro p hp
    have hm0 : ((st ++ [e])[st.length]'(by omega)).m = true := by rw [gE]; exact htop
    obtain ⟨_, _, m3⟩ := h.mark st.length (by omega) hm0
    rw [gE] at m3
    rcases m3 p hp with q | ⟨j, hj, hij, _⟩
    · exact q
    · omega
  · refine ⟨fun x hx => h.tr x (by simp [hx]), fun x v hx => ?_, fun x hx => ?_, fun i hi hm => ?_, ?_⟩
    · by_cases c : x = adr e.a
      · rw [if_pos c] at hx
        injection hx with hx
        subst hx
        exact .inr ⟨hw, e.a.1, e.a.2, e.n, c, htr, rfl⟩
      · rw [if_neg c] at hx
        exact h.val x v hx
    · by_cases c : x = adr e.a
      · rw [if_pos c] at hx
        injection hx with hx
        omega
      · rw [if_neg c] at hx
        obtain ⟨i, hi, e1, e2⟩ := h.wait x hx
        rcases Nat.lt_or_ge i st.length with q | q
        · rw [gS i hi q] at e1 e2
          exact ⟨i, q, e1, e2⟩
        · have : i = st.length := by omega
          subst this
          rw [gE hi] at e1
          exact absurd e1.symm c
    · have hm0 : ((st ++ [e])[i]'(by omega)).m = true := by rw [gS i _ hi]; exact hm
      obtain ⟨m1, m2, m3⟩ := h.mark i (by omega) hm0
      rw [gS i _ hi] at m1 m3
      refine ⟨by rw [if_neg (huni i hi hm)]; exact m1, fun j hj hij => ?_, fun p hp => ?_⟩
      · have := m2 j (by omega) hij
        rw [gS i _ hi, gS j _ hj] at this
        exact this
      · by_cases c : adr p = adr e.a
        · exact .inl ⟨_, hw, by rw [if_pos c]⟩
        rcases m3 p hp with ⟨v, v0, v1⟩ | ⟨j, hj, hij, hja⟩
        · exact .inl ⟨v, v0, by rw [if_neg c]; exact v1⟩
        · rcases Nat.lt_or_ge j st.length with q | q
          · rw [gS j hj q] at hja
            exact .inr ⟨j, q, hij, hja⟩
          · have : j = st.length := by omega
            subst this
            rw [gE hj] at hja
            exact absurd (by rw [hja]) c
    · rcases h.rt with ⟨x, hx, e1⟩ | ⟨v, v0, v1⟩
      · rcases List.mem_append.1 hx with hx | hx
        · exact .inl ⟨x, hx, e1⟩
        · simp at hx
          subst hx
          exact .inr ⟨_, hw, by rw [← e1, if_pos rfl]⟩
      · refine .inr ⟨v, v0, ?_⟩
        have : adr root ≠ adr e.a := fun q => by rw [q, hF] at v1; injection v1 with v1; omega
        rw [if_neg this]
        exact v1
/-- The work's end. -/
theorem fo_end {w : World} {wk : Nd → List Int → Int} {root : Nat × Nat} {n : Nd} {F : Addr → Option Int} (h : Fo w wk root [] F) (ht : TrA w root.1 root.2 n) : F (adr root) = some (fdF wk n) := by
  rcases h.rt with ⟨x, hx, _⟩ | ⟨v, v0, v1⟩
  · simp at hx
  · rw [v1, fo_kid h v1 v0 ht]
end Go.Proofs.Ythlkbijpphdblaa
namespace Go.Proofs.Ythlkbijpphdblaa
open Go.RowKit
set_option linter.unusedVariables false

/-- A slice of ints. -/
def Ints (w : World) (v : Value) (l : List Int) : Prop := ∃ a cap, v = .slice a l.length cap ∧ (l = [] ∨ ∃ g, a = some ⟨g, 0, none⟩ ∧ ∀ (j : Nat) (hj : j < l.length), w.cell? ⟨g, j, none⟩ = some (.int .i64 l[j]))
theorem row_ints {w : World} {base : Nat} {v : Value} {l : List Int} (h : w.ownsRow base 3 1 v l.length (l.map (Value.int .i64))) : Ints w v l := by
  have h0 := h
  rcases h.2 with ⟨rfl, hz⟩ | ⟨g, cap, cur, rfl, _⟩
  · have : l = [] := List.eq_nil_of_length_eq_zero hz
    subst this
    exact ⟨none, 0, rfl, .inl rfl⟩
  · refine ⟨_, cap, rfl, .inr ⟨g, rfl, fun j hj => ?_⟩⟩
    have := h0.cells (g := g) rfl j (.int .i64 l[j]) (by simp)
    rw [addr_add, Nat.zero_add] at this
    exact this
theorem info_in : (Try.prog.info? 3).map (fun i => (i.zero.map fun z => z.cells.size, i.size, i.bytes)) = some (some 1, 1, 8) := by kernel_rfl
theorem info_inp : ∃ i z, Try.prog.info? 3 = some i ∧ i.zero = some z ∧ z.cells.size = 1 ∧ i.size = 1 ∧ i.bytes = 8 := by
  have := info_in
  cases h : Try.prog.info? 3 with
  | none => rw [h] at this; simp at this
  | some i =>
    rw [h] at this
    simp at this
    obtain ⟨⟨z, h1, h2⟩, h3, h4⟩ := this
    exact ⟨i, z, rfl, h1, h2, h3, h4⟩
/-- A row less its last. -/
theorem row_pop {w : World} {base n size : Nat} {e : TypeId} {a : Option Addr} {cap : Nat} {xs ys : List Value} (h : w.ownsRow base e size (.slice a (n + 1) cap) (n + 1) (xs ++ ys)) (hx : xs.length = n * size) : w.ownsRow base e size (.slice a n cap) n xs := by
  obtain ⟨h1, h2⟩ := h
  refine ⟨hx, ?_⟩
  rcases h2 with ⟨q, _⟩ | ⟨g, cap', cur, q, h3, h4, h5, h6, h7, h8⟩
  · simp at q
  · simp only [Value.slice.injEq] at q
    obtain ⟨rfl, _, rfl⟩ := q
    refine .inr ⟨g, cap, cur, rfl, h3, h4, by omega, h6, h7, ?_⟩
    have : cur.toList.take (n * size) = (cur.toList.take ((n + 1) * size)).take (n * size) := by
      rw [List.take_take]
      congr 1
      have : n * size ≤ (n + 1) * size := Nat.mul_le_mul_right _ (by omega)
      omega
    rw [this, h8, List.take_append_of_le_length (by omega), List.take_of_length_le (by omega)]
/-- A row cut to nothing. -/
theorem row_cut {w : World} {base n size : Nat} {e : TypeId} {a : Option Addr} {cap : Nat} {xs : List Value} (h : w.ownsRow base e size (.slice a n cap) n xs) : w.ownsRow base e size (.slice a 0 cap) 0 [] := by
  obtain ⟨h1, h2⟩ := h
  refine ⟨by simp, ?_⟩
  rcases h2 with ⟨q, q2⟩ | ⟨g, cap', cur, q, h3, h4, h5, h6, h7, h8⟩
  · simp only [Value.slice.injEq] at q
    obtain ⟨rfl, _, rfl⟩ := q
    exact .inl ⟨rfl, rfl⟩
  · simp only [Value.slice.injEq] at q
    obtain ⟨rfl, _, rfl⟩ := q
    exact .inr ⟨g, cap, cur, rfl, h3, h4, by omega, h6, h7, by simp⟩
/-- Rows of different kinds lie apart. -/
theorem row_ne {w : World} {base base' n n' size size' : Nat} {e e' : TypeId} {v v' : Value} {xs xs' : List Value} (h : w.ownsRow base e size v n xs) (h' : w.ownsRow base' e' size' v' n' xs') (hne : e ≠ e') : ∀ k, v.ownBlock = some k → v'.ownBlock ≠ some k := fun k hk hk' => by
  rcases h.2 with ⟨rfl, _⟩ | ⟨g, cap, cur, rfl, h3, h4, _⟩
  · simp [Value.ownBlock] at hk
  rcases h'.2 with ⟨rfl, _⟩ | ⟨g', cap', cur', rfl, h3', h4', _⟩
  · simp [Value.ownBlock] at hk'
  simp [Value.ownBlock] at hk hk'
  subst hk
  subst hk'
  rw [h4] at h4'
  injection h4' with q
  injection q with q1 q2
  exact hne q2
theorem row_nm {w : World} {base n size M : Nat} {e : TypeId} {v : Value} {xs : List Value} {F : Addr → Option Int} (h : w.ownsRow base e size v n xs) (hm : PMap w M F) : v.ownBlock ≠ some M := fun hk => by
  obtain ⟨arr, clk, es, hb, _⟩ := hm.ex
  rcases h.2 with ⟨rfl, _⟩ | ⟨g, cap, cur, rfl, h3, h4, _⟩
  · simp [Value.ownBlock] at hk
  simp [Value.ownBlock] at hk
  subst hk
  rw [h4] at hb
  cases hb
/-- The map stays where nothing of it is written. -/
theorem PMap.keep {O : Nat → Prop} {w w' : World} {M : Nat} {F : Addr → Option Int} (h : PMap w M F) (hf : Fro O w w') (hM : ¬ O M) (hn : ∀ k arr, w.heap[k]? = some (.cells arr 27 (0, 0)) → ¬ O k) : PMap w' M F := by
  obtain ⟨arr, clk, es, hb, he, hk, hF⟩ := h.ex
  exact ⟨arr, clk, es, hf.at hb hM, he, fun p hp => by
    obtain ⟨x, hx⟩ := hk p hp
    exact ⟨x, hf.at hx (hn _ _ hx)⟩, hF⟩
/-- Where the work stands, in memory. -/
structure FoR (w : World) (wk : Nd → List Int → Int) (root : Nat × Nat) (g : Nat) (v6 v7 : Value) (wr : World) (st : List En) (F : Addr → Option Int) (k6 : Nat) (xs : List Value) : Prop where
  row : wr.ownsRow w.heap.size 71 1 v7 st.length (st.map fun e => ptV e.a)
  num : wr.ownsRow w.heap.size 3 1 v6 k6 xs
  map : PMap wr w.heap.size F
  fo : Fo w wk root st F
  sum : (st.map enW).sum ≤ g
  bel : Below w.heap.size w wr
  wt : ∀ e ∈ st, wtF e.n ≤ 1000000
theorem en_len : ∀ (st : List En), st.length ≤ (st.map enW).sum
  | [] => by simp
  | e :: st => by
    have := en_len st
    have : 1 ≤ enW e := by unfold enW; split; omega; rw [wtF_eq]; omega
    simp
    omega
/-- What is written behind the old memory leaves all else of it. -/
theorem row_keep {O : Nat → Prop} {w w' : World} {base n size : Nat} {e : TypeId} {v : Value} {xs : List Value} (h : w.ownsRow base e size v n xs) (hf : Fro O w w') (hO : ∀ k, v.ownBlock = some k → ¬ O k) : w'.ownsRow base e size v n xs := row_fro h hf hO
/-- An append to a row of ones. -/
theorem wpList_ap {ops : Array Oper} {rest : List Oper} {o : Oper} {a : Act} {Q : Exit → Act → World → Prop} (W : World) (e t : TypeId) (i : TypeInfo) (z : Value) (ht : Try.prog.underlying t = some (.slice e)) (hi : Try.prog.info? e = some i) (hz : i.zero = some z) (hzc : z.cells.size = 1) (hz1 : i.size = 1) (hz3 : i.bytes = 8)
    (s x : Operand) (hgd : o.guard = none) (ho : o.op = .call { callee := .builtin .append, args := #[s, x], argTypes := #[t, t] }) (base : Nat) (v : Value) (n : Nat) (xs : List Value) (hs : a.eval s = v) (hown : W.ownsRow base e 1 v n xs) (ad : Option Addr) (m c : Nat) (news : List Value) (hx : a.eval x = .slice ad m c) (hl : news.length = m) (hsrc : m = 0 ∨ ∃ ad', ad = some ad' ∧ ∀ j u, news[j]? = some u → W.cell? (ad'.add j) = some u) (h1 : ∀ u ∈ news, u.oneCell' = true) (hb : n + m ≤ 10000000) (hbase : base ≤ W.heap.size)
    (h : ∀ v' w', w'.ownsRow base e 1 v' (n + m) (xs ++ news) → Fro (fun j => v.ownBlock = some j) W w' → (v'.ownBlock = v.ownBlock ∨ v'.ownBlock = some W.heap.size) → wpList Try.prog ops Q rest (a.put o.dst v') w') : wpList Try.prog ops Q (o :: rest) a W :=
  wpList_app W hgd s x t ho base e i z 1 8 ht hi hz hz1 hz3 hzc (by decide) v n xs hs hown ad m c news hx (by omega) hsrc h1 (by unfold maxLen; omega) (by omega) hbase (fun v' w' h2 h3 h4 => h v' w' h2 (Fro.grown h3 (fun j hj => hj)) h4)
theorem row_nd {w : World} {base n size k : Nat} {e : TypeId} {v : Value} {xs : List Value} {arr : Array Value} (h : w.ownsRow base e size v n xs) (he : e ≠ 27) (hk : w.heap[k]? = some (.cells arr 27 (0, 0))) : v.ownBlock ≠ some k := fun q => by
  rcases h.2 with ⟨rfl, _⟩ | ⟨g, cap, cur, rfl, h3, h4, _⟩
  · simp [Value.ownBlock] at q
  simp [Value.ownBlock] at q
  subst q
  rw [h4] at hk
  injection hk with q
  injection q with q1 q2
  exact he q2
end Go.Proofs.Ythlkbijpphdblaa
