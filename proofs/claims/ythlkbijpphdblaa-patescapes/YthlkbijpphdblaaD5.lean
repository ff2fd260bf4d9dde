/- A number of each node from those of its kids: the walk. -/
import Derived.Test.YthlkbijpphdblaaD4
namespace Go.Proofs.Ythlkbijpphdblaa
open Go.RowKit
set_option linter.unusedVariables false

/-- A slice of ints. -/
def Ints (w : World) (v : Value) (l : List Int) : Prop := ∃ a cap, v = .slice a l.length cap ∧ (l = [] ∨ ∃ g, a = some ⟨g, 0, none⟩ ∧ ∀ (j : Nat) (hj : j < l.length), w.cell? ⟨g, j, none⟩ = some (.int .i64 l[j]))
theorem row_ints {w : World} {base : Nat} {v : Value} {l : List Int} (h : w.ownsRow base 3 1 v l.length (l.map (Value.int .i64))) : Ints w v l := by
  have h0 := h
  rcases h.2 with ⟨rfl, hz⟩ | ⟨g, cap, cur, rfl, _⟩
  · have : l = [] := List.eq_nil_of_length_eq_zero hz
    subst this
    exact ⟨none, 0, rfl, .inl rfl⟩
  · refine ⟨_, cap, rfl, .inr ⟨g, rfl, fun j hj => ?_⟩⟩
    have := h0.cells (g := g) rfl j (.int .i64 l[j]) (by simp)
    rw [addr_add, Nat.zero_add] at this
    exact this
theorem info_in : (Try.prog.info? 3).map (fun i => (i.zero.map fun z => z.cells.size, i.size, i.bytes)) = some (some 1, 1, 8) := by kernel_rfl
theorem info_inp : ∃ i z, Try.prog.info? 3 = some i ∧ i.zero = some z ∧ z.cells.size = 1 ∧ i.size = 1 ∧ i.bytes = 8 := by
  have := info_in
  cases h : Try.prog.info? 3 with
  | none => rw [h] at this; simp at this
  | some i =>
    rw [h] at this
    simp at this
    obtain ⟨⟨z, h1, h2⟩, h3, h4⟩ := this
    exact ⟨i, z, rfl, h1, h2, h3, h4⟩
/-- A row less its last. -/
theorem row_pop {w : World} {base n size : Nat} {e : TypeId} {a : Option Addr} {cap : Nat} {xs ys : List Value} (h : w.ownsRow base e size (.slice a (n + 1) cap) (n + 1) (xs ++ ys)) (hx : xs.length = n * size) : w.ownsRow base e size (.slice a n cap) n xs := by
  obtain ⟨h1, h2⟩ := h
  refine ⟨hx, ?_⟩
  rcases h2 with ⟨q, _⟩ | ⟨g, cap', cur, q, h3, h4, h5, h6, h7, h8⟩
  · simp at q
  · simp only [Value.slice.injEq] at q
    obtain ⟨rfl, _, rfl⟩ := q
    refine .inr ⟨g, cap, cur, rfl, h3, h4, by omega, h6, h7, ?_⟩
    have : cur.toList.take (n * size) = (cur.toList.take ((n + 1) * size)).take (n * size) := by
      rw [List.take_take]
      congr 1
      have : n * size ≤ (n + 1) * size := Nat.mul_le_mul_right _ (by omega)
      omega
    rw [this, h8, List.take_append_of_le_length (by omega), List.take_of_length_le (by omega)]
/-- A row cut to nothing. -/
theorem row_cut {w : World} {base n size : Nat} {e : TypeId} {a : Option Addr} {cap : Nat} {xs : List Value} (h : w.ownsRow base e size (.slice a n cap) n xs) : w.ownsRow base e size (.slice a 0 cap) 0 [] := by
  obtain ⟨h1, h2⟩ := h
  refine ⟨by simp, ?_⟩
  rcases h2 with ⟨q, q2⟩ | ⟨g, cap', cur, q, h3, h4, h5, h6, h7, h8⟩
  · simp only [Value.slice.injEq] at q
    obtain ⟨rfl, _, rfl⟩ := q
    exact .inl ⟨rfl, rfl⟩
  · simp only [Value.slice.injEq] at q
    obtain ⟨rfl, _, rfl⟩ := q
    exact .inr ⟨g, cap, cur, rfl, h3, h4, by omega, h6, h7, by simp⟩
/-- Rows of different kinds lie apart. -/
theorem row_ne {w : World} {base base' n n' size size' : Nat} {e e' : TypeId} {v v' : Value} {xs xs' : List Value} (h : w.ownsRow base e size v n xs) (h' : w.ownsRow base' e' size' v' n' xs') (hne : e ≠ e') : ∀ k, v.ownBlock = some k → v'.ownBlock ≠ some k := fun k hk hk' => by
  rcases h.2 with ⟨rfl, _⟩ | ⟨g, cap, cur, rfl, h3, h4, _⟩
  · simp [Value.ownBlock] at hk
  rcases h'.2 with ⟨rfl, _⟩ | ⟨g', cap', cur', rfl, h3', h4', _⟩
  · simp [Value.ownBlock] at hk'
  simp [Value.ownBlock] at hk hk'
  subst hk
  subst hk'
  rw [h4] at h4'
  injection h4' with q
  injection q with q1 q2
  exact hne q2
theorem row_nm {w : World} {base n size M : Nat} {e : TypeId} {v : Value} {xs : List Value} {F : Addr → Option Int} (h : w.ownsRow base e size v n xs) (hm : PMap w M F) : v.ownBlock ≠ some M := fun hk => by
  obtain ⟨arr, clk, es, hb, _⟩ := hm.ex
  rcases h.2 with ⟨rfl, _⟩ | ⟨g, cap, cur, rfl, h3, h4, _⟩
  · simp [Value.ownBlock] at hk
  simp [Value.ownBlock] at hk
  subst hk
  rw [h4] at hb
  cases hb
/-- The map stays where nothing of it is written. -/
theorem PMap.keep {O : Nat → Prop} {w w' : World} {M : Nat} {F : Addr → Option Int} (h : PMap w M F) (hf : Fro O w w') (hM : ¬ O M) (hn : ∀ k arr, w.heap[k]? = some (.cells arr 27 (0, 0)) → ¬ O k) : PMap w' M F := by
  obtain ⟨arr, clk, es, hb, he, hk, hF⟩ := h.ex
  exact ⟨arr, clk, es, hf.at hb hM, he, fun p hp => by
    obtain ⟨x, hx⟩ := hk p hp
    exact ⟨x, hf.at hx (hn _ _ hx)⟩, hF⟩
/-- Where the work stands, in memory. -/
structure FoR (w : World) (wk : Nd → List Int → Int) (root : Nat × Nat) (g : Nat) (v6 v7 : Value) (wr : World) (st : List En) (F : Addr → Option Int) (k6 : Nat) (xs : List Value) : Prop where
  row : wr.ownsRow w.heap.size 71 1 v7 st.length (st.map fun e => ptV e.a)
  num : wr.ownsRow w.heap.size 3 1 v6 k6 xs
  map : PMap wr w.heap.size F
  fo : Fo w wk root st F
  sum : (st.map enW).sum ≤ g
  bel : Below w.heap.size w wr
  wt : ∀ e ∈ st, wtF e.n ≤ 1000000
theorem en_len : ∀ (st : List En), st.length ≤ (st.map enW).sum
  | [] => by simp
  | e :: st => by
    have := en_len st
    have : 1 ≤ enW e := by unfold enW; split; omega; rw [wtF_eq]; omega
    simp
    omega
/-- What is written behind the old memory leaves all else of it. -/
theorem row_keep {O : Nat → Prop} {w w' : World} {base n size : Nat} {e : TypeId} {v : Value} {xs : List Value} (h : w.ownsRow base e size v n xs) (hf : Fro O w w') (hO : ∀ k, v.ownBlock = some k → ¬ O k) : w'.ownsRow base e size v n xs := row_fro h hf hO
/-- An append to a row of ones. -/
theorem wpList_ap {ops : Array Oper} {rest : List Oper} {o : Oper} {a : Act} {Q : Exit → Act → World → Prop} (W : World) (e t : TypeId) (i : TypeInfo) (z : Value) (ht : Try.prog.underlying t = some (.slice e)) (hi : Try.prog.info? e = some i) (hz : i.zero = some z) (hzc : z.cells.size = 1) (hz1 : i.size = 1) (hz3 : i.bytes = 8)
    (s x : Operand) (hgd : o.guard = none) (ho : o.op = .call { callee := .builtin .append, args := #[s, x], argTypes := #[t, t] }) (base : Nat) (v : Value) (n : Nat) (xs : List Value) (hs : a.eval s = v) (hown : W.ownsRow base e 1 v n xs) (ad : Option Addr) (m c : Nat) (news : List Value) (hx : a.eval x = .slice ad m c) (hl : news.length = m) (hsrc : m = 0 ∨ ∃ ad', ad = some ad' ∧ ∀ j u, news[j]? = some u → W.cell? (ad'.add j) = some u) (h1 : ∀ u ∈ news, u.oneCell' = true) (hb : n + m ≤ 10000000) (hbase : base ≤ W.heap.size)
    (h : ∀ v' w', w'.ownsRow base e 1 v' (n + m) (xs ++ news) → Fro (fun j => v.ownBlock = some j) W w' → (v'.ownBlock = v.ownBlock ∨ v'.ownBlock = some W.heap.size) → wpList Try.prog ops Q rest (a.put o.dst v') w') : wpList Try.prog ops Q (o :: rest) a W :=
  wpList_app W hgd s x t ho base e i z 1 8 ht hi hz hz1 hz3 hzc (by decide) v n xs hs hown ad m c news hx (by omega) hsrc h1 (by unfold maxLen; omega) (by omega) hbase (fun v' w' h2 h3 h4 => h v' w' h2 (Fro.grown h3 (fun j hj => hj)) h4)
theorem row_nd {w : World} {base n size k : Nat} {e : TypeId} {v : Value} {xs : List Value} {arr : Array Value} (h : w.ownsRow base e size v n xs) (he : e ≠ 27) (hk : w.heap[k]? = some (.cells arr 27 (0, 0))) : v.ownBlock ≠ some k := fun q => by
  rcases h.2 with ⟨rfl, _⟩ | ⟨g, cap, cur, rfl, h3, h4, _⟩
  · simp [Value.ownBlock] at q
  simp [Value.ownBlock] at q
  subst q
  rw [h4] at hk
  injection hk with q
  injection q with q1 q2
  exact he q2
end Go.Proofs.Ythlkbijpphdblaa
