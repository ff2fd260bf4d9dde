/- Joined: HDcGen, HK3, HK4. -/
import Derived.Test.YtgaegajcejpmdaaGreatDoorProg
import Derived.WalkKit
import Derived.WalkSpells
import Derived.WalkLawsBesides
import Derived.Below
import Derived.MapKept
import Derived.Carry
import Derived.BigQuiet
import Derived.Deep.LoopGhost
import Derived.Deep.DeepCutAuto
import Derived.Deep.AppendLies
import Derived.Maps.AppendAt
import Derived.Laws.IdiomStrings
import Derived.Laws.StructEq
import Derived.Lib.Bytealg
import Derived.Test.YtgaegajcejpmdaaGreatDoorHJ4
import Derived.Laws.Rows
namespace Go.Proofs.YtgaegajcejpmdaaGreatDoor.Dc
open Go.RowKit
set_option linter.unusedVariables false

theorem nw_heap (w : World) (o : Obj) : (w.alloc o).heap[w.heap.size]? = some o := (Go.MapKept.heap_alloc w o).1
theorem bset {w : World} {X i : Nat} {t : TypeId} {cs : Array Value} (h : w.heap[X]? = some (.cells cs t (0, 0))) (u : Value) : (w.setCell ⟨X, i, none⟩ u).heap[X]? = some (.cells (cs.setIfInBounds i u) t (0, 0)) := by
  simp only [World.setCell, Array.getElem?_modify]
  rw [if_pos trivial, h]
  simp
theorem sza (w : World) (o : Obj) : (w.alloc o).heap.size = w.heap.size + 1 := by simp
theorem xa2 (wr : World) (a b : Obj) : ((wr.alloc a).alloc b).heap[wr.heap.size]? = some a := (((Below.refl (wr.alloc a).heap.size (wr.alloc a)).alloc (Nat.le_refl _) b).block _ (by simp)).trans (nw_heap wr a)
theorem xa3 (wr : World) (a b c : Obj) : (((wr.alloc a).alloc b).alloc c).heap[wr.heap.size]? = some a := (((Below.refl ((wr.alloc a).alloc b).heap.size ((wr.alloc a).alloc b)).alloc (Nat.le_refl _) c).block _ (by simp; omega)).trans (xa2 wr a b)
theorem grown_at {w w' : World} {b k : Nat} {o : Obj} (h : w.grownBy w' (some b)) (hk : w.heap[k]? = some o) (hn : b ≠ k) : w'.heap[k]? = some o := by
  obtain ⟨_, _, _, _, g⟩ := h
  exact (g k (Array.getElem?_eq_some_iff.1 hk).1 (by simp; exact fun e => hn e.symm)).trans hk
theorem grown_o {w w' : World} {r : Option Nat} {k : Nat} {o : Obj} (h : w.grownBy w' r) (hk : w.heap[k]? = some o) (hn : r ≠ some k) : w'.heap[k]? = some o := by
  obtain ⟨_, _, _, _, g⟩ := h
  exact (g k (Array.getElem?_eq_some_iff.1 hk).1 (fun e => hn e.symm)).trans hk
theorem lt_of {w : World} {X : Nat} {o : Obj} (h : w.heap[X]? = some o) : X < w.heap.size := (Array.getElem?_eq_some_iff.1 h).1
theorem setC {W : World} {T i : Nat} {cs : Array Value} {t : TypeId} (u : Value) (h : W.heap[T]? = some (.cells cs t (0, 0))) : W.grownBy (W.setCell ⟨T, i, none⟩ u) (some T) ∧ (W.setCell ⟨T, i, none⟩ u).heap[T]? = some (.cells (cs.setIfInBounds i u) t (0, 0)) := by
  refine ⟨⟨rfl, rfl, rfl, by simp [World.setCell], fun k hk hne => ?_⟩, bset h u⟩
  have hk : T ≠ k := fun e => hne (by rw [e])
  simp [World.setCell, Array.getElem?_modify, hk]
theorem row_below {w w' : World} {base n size : Nat} {e : TypeId} {v : Value} {xs : List Value} (h : w.ownsRow base e size v n xs) (hf : Below w.heap.size w w') : w'.ownsRow base e size v n xs := by
  obtain ⟨h1, h2⟩ := h
  refine ⟨h1, ?_⟩
  rcases h2 with h | ⟨g, cap, cur, rfl, h3, h4, h5, h6, h7, h8⟩
  · exact .inl h
  · exact .inr ⟨g, cap, cur, rfl, h3, (hf.block g (Array.getElem?_eq_some_iff.1 h4).1).trans h4, h5, h6, h7, h8⟩
theorem row_base {w : World} {base n size : Nat} {e : TypeId} {v : Value} {xs : List Value} (h : w.ownsRow base e size v n xs) : ∀ k, v.ownBlock = some k → base ≤ k ∧ k < w.heap.size := by
  obtain ⟨h1, h2⟩ := h
  rcases h2 with ⟨rfl, _⟩ | ⟨g, cap, cur, rfl, h3, h4, h5, h6, h7, h8⟩
  · simp [Value.ownBlock]
  · intro k q
    simp [Value.ownBlock] at q
    subst q
    exact ⟨h3, (Array.getElem?_eq_some_iff.1 h4).1⟩
theorem row_form {w : World} {base n size : Nat} {e : TypeId} {v : Value} {xs : List Value} (h : w.ownsRow base e size v n xs) : ∃ a c, v = .slice a n c := by
  rcases h.2 with ⟨h, h0⟩ | ⟨g, cap, cur, rfl, _⟩
  · exact ⟨none, 0, by rw [h, h0]⟩
  · exact ⟨_, _, rfl⟩
theorem bl3 {w2 : World} {X : Nat} {x y z : Value} {t : TypeId} (hblk : w2.heap[X]? = some (.cells #[x, y, z] t (0, 0))) : w2.cell? ⟨X, 0, none⟩ = some x ∧ w2.cell? ⟨X, 1, none⟩ = some y ∧ w2.cell? ⟨X, 2, none⟩ = some z := by
  refine ⟨?_, ?_, ?_⟩ <;> simp [World.cell?, hblk]
theorem fresh2 {w2 : World} {X : Nat} {x y : Value} {t : TypeId} (hblk : w2.heap[X]? = some (.cells #[x, y] t (0, 0))) : w2.cell? ⟨X, 0, none⟩ = some x ∧ w2.cell? ⟨X, 1, none⟩ = some y ∧ w2.frozen? ⟨X, 0, none⟩ = false ∧ w2.frozen? ⟨X, 1, none⟩ = false := by
  refine ⟨?_, ?_, ?_, ?_⟩ <;> simp [World.cell?, World.frozen?, hblk]
theorem addr_add0 (B j : Nat) : (⟨B, 0, none⟩ : Addr).add j = ⟨B, j, none⟩ := by unfold Addr.add; split <;> simp_all
theorem addr_add (b o j : Nat) : (⟨b, o, none⟩ : Addr).add j = ⟨b, o + j, none⟩ := by
  by_cases h : j = 0 <;> simp [Addr.add, h]
theorem run_app0 {P : Program} (w : World) (t ty e : TypeId) (i : TypeInfo) (ht : P.underlying t = some (.slice e)) (hi : P.info? e = some i) (base : Option Addr) (sLen sCap : Nat) (hle : sLen ≤ sCap) (a : Option Addr) (c : Nat) :
    (Builtin.append_ #[t, t] ty #[.slice base sLen sCap, .slice a 0 c]).run P w = .ok (.slice base sLen sCap) w := by
  cases base <;> cases a <;> simp [Builtin.append_, run_underlying ht, sizeOf, typeInfo, hi, hle, storeCells, Builtin.lenOf, Builtin.firstCells, loadCells, loadCellsFrom]
theorem run_app {P : Program} (w : World) (base : Nat) (t ty e : TypeId) (i : TypeInfo) (z : Value) (size bytes : Nat) (ht : P.underlying t = some (.slice e)) (hi : P.info? e = some i) (hz : i.zero = some z)
    (hsize : i.size = size) (hby : i.bytes = bytes) (hzs : z.cells.size = size) (hsz : 0 < size)
    (v : Value) (n : Nat) (xs : List Value) (hown : w.ownsRow base e size v n xs)
    (a : Option Addr) (m c : Nat) (news : List Value) (hl : news.length = m * size) (hsrc : m = 0 ∨ ∃ ad, a = some ad ∧ ∀ j u, news[j]? = some u → w.cell? (ad.add j) = some u) (h1 : ∀ u ∈ news, u.oneCell' = true)
    (h63 : n + m ≤ maxLen) (hbytes : (n + m) * bytes ≤ 140737488355328) (hbase : base ≤ w.heap.size) :
    ∃ v' w', (Builtin.append_ #[t, t] ty #[v, .slice a m c]).run P w = .ok v' w' ∧ w'.ownsRow base e size v' (n + m) (xs ++ news) ∧ w.grownBy w' v.ownBlock ∧ (v'.ownBlock = v.ownBlock ∨ v'.ownBlock = some w.heap.size) := by
  rcases hsrc with rfl | ⟨ad, rfl, hnews⟩
  · have hn0 : news = [] := List.eq_nil_of_length_eq_zero (by omega)
    subst hn0
    obtain ⟨va, vc, rfl⟩ := row_form hown
    have hle : n ≤ vc := by
      rcases hown.2 with ⟨q, q0⟩ | ⟨g, cap, cur, q, _, _, hq, _⟩
      · simp at q; omega
      · simp at q; omega
    refine ⟨_, w, run_app0 w t ty e i ht hi va n vc hle a c, by rw [List.append_nil]; exact hown, ?_, .inl rfl⟩
    exact ⟨rfl, rfl, rfl, Nat.le_refl _, fun _ _ _ => rfl⟩
  · obtain ⟨v', w', hr, h2, h3, _, h5⟩ := run_append_own_at (P := P) w base t ty e i z size bytes ht hi hz hsize hby hzs hsz v n xs hown ad m c news hl hnews h1 h63 hbytes hbase
    exact ⟨v', w', hr, h2, h3, h5⟩
theorem wp_app {P : Program} (w : World) {o : Oper} {a : Act} {K : Act → World → Prop} {Q : Exit → Act → World → Prop} (s x : Operand) (t : TypeId)
    (ho : o.op = .call { callee := .builtin .append, args := #[s, x], argTypes := #[t, t] })
    (base : Nat) (e : TypeId) (i : TypeInfo) (z : Value) (size bytes : Nat) (ht : P.underlying t = some (.slice e)) (hi : P.info? e = some i) (hz : i.zero = some z)
    (hsize : i.size = size) (hby : i.bytes = bytes) (hzs : z.cells.size = size) (hsz : 0 < size)
    (v : Value) (n : Nat) (xs : List Value) (hs : a.eval s = v) (hown : w.ownsRow base e size v n xs)
    (ad : Option Addr) (m c : Nat) (news : List Value) (hx : a.eval x = .slice ad m c) (hl : news.length = m * size) (hsrc : m = 0 ∨ ∃ ad', ad = some ad' ∧ ∀ j u, news[j]? = some u → w.cell? (ad'.add j) = some u) (h1 : ∀ u ∈ news, u.oneCell' = true)
    (h63 : n + m ≤ maxLen) (hbytes : (n + m) * bytes ≤ 140737488355328) (hbase : base ≤ w.heap.size)
    (h : ∀ v' w', w'.ownsRow base e size v' (n + m) (xs ++ news) → w.grownBy w' v.ownBlock → (v'.ownBlock = v.ownBlock ∨ v'.ownBlock = some w.heap.size) → K (a.put o.dst v') w') : o.wp P a w K Q := by
  obtain ⟨v', w', hr, h2, h3, h4⟩ := run_app (P := P) w base t o.type e i z size bytes ht hi hz hsize hby hzs hsz v n xs hown ad m c news hl hsrc h1 h63 hbytes hbase
  unfold Oper.wp execOp
  simp only [ho, resolve, invoke, builtin, Sem.run_bind, Sem.run_pure, Result.andThen_ok, List.map_toArray, List.map_cons, List.map_nil, hs, hx, hr]
  exact h v' w' h2 h3 h4
theorem wpList_app {P : Program} (w : World) {ops : Array Oper} {rest : List Oper} {o : Oper} {a : Act} {Q : Exit → Act → World → Prop} (hgd : o.guard = none) (s x : Operand) (t : TypeId)
    (ho : o.op = .call { callee := .builtin .append, args := #[s, x], argTypes := #[t, t] })
    (base : Nat) (e : TypeId) (i : TypeInfo) (z : Value) (size bytes : Nat) (ht : P.underlying t = some (.slice e)) (hi : P.info? e = some i) (hz : i.zero = some z)
    (hsize : i.size = size) (hby : i.bytes = bytes) (hzs : z.cells.size = size) (hsz : 0 < size)
    (v : Value) (n : Nat) (xs : List Value) (hs : a.eval s = v) (hown : w.ownsRow base e size v n xs)
    (ad : Option Addr) (m c : Nat) (news : List Value) (hx : a.eval x = .slice ad m c) (hl : news.length = m * size) (hsrc : m = 0 ∨ ∃ ad', ad = some ad' ∧ ∀ j u, news[j]? = some u → w.cell? (ad'.add j) = some u) (h1 : ∀ u ∈ news, u.oneCell' = true)
    (h63 : n + m ≤ maxLen) (hbytes : (n + m) * bytes ≤ 140737488355328) (hbase : base ≤ w.heap.size)
    (h : ∀ v' w', w'.ownsRow base e size v' (n + m) (xs ++ news) → w.grownBy w' v.ownBlock → (v'.ownBlock = v.ownBlock ∨ v'.ownBlock = some w.heap.size) → wpList P ops Q rest (a.put o.dst v') w') : wpList P ops Q (o :: rest) a w :=
  wpList_plain hgd fun _ hK => wp_app w s x t ho base e i z size bytes ht hi hz hsize hby hzs hsz v n xs hs hown ad m c news hx hl hsrc h1 h63 hbytes hbase fun v' w' h2 h3 h4 => hK _ _ (h v' w' h2 h3 h4)
theorem emp (wr : World) (t : TypeId) : (wr.alloc (.cells #[] t)).ownsRow wr.heap.size t 1 (.slice (some ⟨wr.heap.size, 0, none⟩) 0 0) 0 [] := ⟨rfl, .inr ⟨wr.heap.size, 0, #[], rfl, Nat.le_refl _, nw_heap wr _, Nat.le_refl _, Nat.zero_le _, rfl, rfl⟩⟩
theorem src_below {w w' : World} {n : Nat} {a : Option Addr} {vs : List Value} (h : n = 0 ∨ ∃ ad : Addr, a = some ad ∧ ad.block < w.heap.size ∧ ∀ j u, vs[j]? = some u → w.cell? (ad.add j) = some u) (hb : Below w.heap.size w w') : n = 0 ∨ ∃ ad : Addr, a = some ad ∧ ∀ j u, vs[j]? = some u → w'.cell? (ad.add j) = some u := by
  rcases h with h | ⟨ad, h1, h2, h3⟩
  · exact .inl h
  · refine .inr ⟨ad, h1, fun j u hu => (hb.cell ?_).trans (h3 j u hu)⟩
    have : (ad.add j).block = ad.block := by unfold Addr.add; split <;> rfl
    rw [this]
    exact h2
theorem Below.drewN' {w : World} (k : Nat) : Below w.heap.size w (w.drewN k) := ⟨rfl, rfl, rfl, Nat.le_refl _, fun _ _ => rfl⟩
/-- A row of bytes in memory, read alone. -/
def BtR (w : World) (v : Value) (l : List Int) : Prop := ∃ a cap, v = .slice a l.length cap ∧ l.length ≤ cap ∧ cap ≤ maxLen ∧ (∀ d ∈ l, 0 ≤ d ∧ d < 256) ∧ (l = [] ∨ ∃ g o, a = some ⟨g, o, none⟩ ∧ g < w.heap.size ∧ ∀ i (hi : i < l.length), w.cell? ⟨g, o + i, none⟩ = some (.int .u8 (l[i]'hi)))
theorem BtR.below {w w' : World} {v : Value} {l : List Int} (h : BtR w v l) (hb : Below w.heap.size w w') : BtR w' v l := by
  obtain ⟨a, cap, rfl, h1, h2, h3, h4⟩ := h
  refine ⟨a, cap, rfl, h1, h2, h3, ?_⟩
  rcases h4 with h4 | ⟨g, o, rfl, h5, h6⟩
  · exact .inl h4
  · exact .inr ⟨g, o, rfl, Nat.lt_of_lt_of_le h5 hb.size, fun i hi => (hb.cell (p := ⟨g, o + i, none⟩) h5).trans (h6 i hi)⟩
theorem BtR.form {w : World} {v : Value} {l : List Int} (h : BtR w v l) : ∃ a cap, v = .slice a l.length cap ∧ l.length ≤ cap ∧ cap ≤ maxLen := by
  obtain ⟨a, cap, rfl, h1, h2, _⟩ := h
  exact ⟨a, cap, rfl, h1, h2⟩
theorem btr_own {w : World} {base n : Nat} {v : Value} {l : List Int} (h : w.ownsRow base 5 1 v n (l.map (Value.int .u8))) (hn : n = l.length) (hd : ∀ d ∈ l, 0 ≤ d ∧ d < 256) : BtR w v l := by
  subst hn
  rcases h.2 with ⟨rfl, h0⟩ | ⟨g, cap, cur, rfl, hbg, hg, h1, h2, _⟩
  · exact ⟨none, 0, by rw [h0], by omega, Nat.zero_le _, hd, .inl (List.eq_nil_of_length_eq_zero h0)⟩
  · refine ⟨_, cap, rfl, h1, h2, hd, .inr ⟨g, 0, rfl, lt_of hg, fun i hi => ?_⟩⟩
    have := h.cells (g := g) rfl i (.int .u8 (l[i]'hi)) (by simp [hi])
    rw [addr_add0] at this
    rw [Nat.zero_add]
    exact this
/-- Its cells, as an append takes them. -/
theorem BtR.src {w : World} {a : Option Addr} {cap : Nat} {l : List Int} (h : BtR w (.slice a l.length cap) l) : l.length = 0 ∨ ∃ ad : Addr, a = some ad ∧ ad.block < w.heap.size ∧ ∀ j u, (l.map (Value.int .u8))[j]? = some u → w.cell? (ad.add j) = some u := by
  obtain ⟨a', cap', e, h1, h2, h3, h4⟩ := h
  simp only [Value.slice.injEq] at e
  obtain ⟨rfl, _, rfl⟩ := e
  rcases h4 with h4 | ⟨g, o, rfl, h5, h6⟩
  · exact .inl (by rw [h4]; rfl)
  · refine .inr ⟨_, rfl, h5, fun j u hu => ?_⟩
    rw [List.getElem?_map] at hu
    obtain ⟨d, hd, rfl⟩ := Option.map_eq_some_iff.1 hu
    obtain ⟨hj, rfl⟩ := List.getElem?_eq_some_iff.1 hd
    rw [addr_add]
    exact h6 j hj
/-- Without its last. -/
theorem BtR.init {w : World} {a : Option Addr} {cap : Nat} {l : List Int} {d : Int} (h : BtR w (.slice a (l.length + 1) cap) (l ++ [d])) : BtR w (.slice a l.length cap) l := by
  obtain ⟨a', cap', e, h1, h2, h3, h4⟩ := h
  simp only [Value.slice.injEq] at e
  obtain ⟨rfl, _, rfl⟩ := e
  simp only [List.length_append, List.length_cons, List.length_nil] at h1
  refine ⟨_, _, rfl, by omega, h2, fun x hx => h3 x (by simp [hx]), ?_⟩
  rcases h4 with h4 | ⟨g, o, rfl, h5, h6⟩
  · simp at h4
  · refine .inr ⟨g, o, rfl, h5, fun i hi => ?_⟩
    have := h6 i (by simp; omega)
    rw [List.getElem_append_left hi] at this
    exact this
/-- Without its first. -/
theorem BtR.rest {w : World} {g o : Nat} {cap : Nat} {l : List Int} {d : Int} (h : BtR w (.slice (some ⟨g, o, none⟩) (l.length + 1) cap) (d :: l)) : BtR w (.slice (some ⟨g, o + 1, none⟩) l.length (cap - 1)) l := by
  obtain ⟨a', cap', e, h1, h2, h3, h4⟩ := h
  simp only [Value.slice.injEq] at e
  obtain ⟨rfl, _, rfl⟩ := e
  simp only [List.length_cons] at h1
  refine ⟨_, _, rfl, by omega, by omega, fun x hx => h3 x (by simp [hx]), ?_⟩
  rcases h4 with h4 | ⟨g', o', e, h5, h6⟩
  · simp at h4
  · simp only [Option.some.injEq, Addr.mk.injEq] at e
    obtain ⟨rfl, rfl, _⟩ := e
    refine .inr ⟨_, _, rfl, h5, fun i hi => ?_⟩
    have := h6 (i + 1) (by simp; omega)
    rw [List.getElem_cons_succ] at this
    have e : o + 1 + i = o + (i + 1) := by omega
    rw [e]
    exact this
theorem info5 : (Tryz.prog.info? 5).map (fun i => (i.zero.map fun z => z.cells.size, i.size, i.bytes)) = some (some 1, 1, 1) := by kernel_rfl
theorem info5p : ∃ i z, Tryz.prog.info? 5 = some i ∧ i.zero = some z ∧ z.cells.size = 1 ∧ i.size = 1 ∧ i.bytes = 1 := by
  have := info5
  cases h : Tryz.prog.info? 5 with
  | none => rw [h] at this; simp at this
  | some i =>
    rw [h] at this
    simp at this
    obtain ⟨⟨z, h1, h2⟩, h3, h4⟩ := this
    exact ⟨i, z, rfl, h1, h2, h3, h4⟩
end Go.Proofs.YtgaegajcejpmdaaGreatDoor.Dc
namespace Go.Proofs.YtgaegajcejpmdaaGreatDoor
open Go.RowKit
set_option linter.unusedVariables false

/-- The names lie in their variable. -/
def NmG (w : World) : Prop := ∃ t f, w.heap[0]? = some (.cells (nmL.map Value.string).toArray t f)
theorem NmG.below {w w' : World} (h : NmG w) (hb : Below w.heap.size w w') : NmG w' := by
  obtain ⟨t, f, h⟩ := h
  exact ⟨t, f, (hb.block 0 (Array.getElem?_eq_some_iff.1 h).1).trans h⟩
theorem NmG.cell {w : World} (h : NmG w) {j : Nat} (hj : j < 33) : w.cell? ⟨0, j, none⟩ = some (.string (nmL.getD j ⟨#[]⟩)) := by
  obtain ⟨t, f, h⟩ := h
  rw [row_cell h]
  exact map_at (f := Value.string) (l := nmL) (d := ⟨#[]⟩) hj
theorem nm_index (k : Nat) (hk : k < 33) (w : World) : (Instr.index 65 (.agg (nmL.map Value.string).toArray) (.int .i64 k)).run Tryz.prog w = .ok (.string (nmL.getD k ⟨#[]⟩)) w := by
  have h1 : ((0 : Int) ≤ (k : Int) ∧ (k : Int) < 33) := by omega
  have h2 : (nmL.map Value.string).toArray[k]? = some (.string (nmL.getD k ⟨#[]⟩)) := map_at (f := Value.string) (l := nmL) (d := ⟨#[]⟩) hk
  have e1 : (isAgg 9).run Tryz.prog w = .ok false w := Tryz.isAgg9 w
  have e2 : (sizeOf 9).run Tryz.prog w = .ok 1 w := Tryz.sizeOf9 w
  generalize (nmL.map Value.string).toArray = A at *
  generalize nmL.getD k ⟨#[]⟩ = v at *
  unfold Instr.index asIntOf
  simp only [Sem.run_bind, Sem.run_pure, Result.andThen_ok, run_underlying Tryz.underlying65]
  rw [if_pos (⟨by omega, by omega⟩ : (0 : Int) ≤ (k : Int) ∧ (k : Int) < ((33 : Nat) : Int))]
  simp only [Sem.run_bind, Result.andThen_ok, e2, part, e1, Int.toNat_natCast, Nat.mul_one, h2]
  simp [Sem.run_pure]
theorem name_k (k : Int) (w : World) (h : NmG w) : Calls Tryz.prog 11 #[.int .i64 k] w fun e w' => e = .returned (.string (nmS k)) ∧ w' = w := by
  by_cases hk : isK k = true
  · obtain ⟨n, rfl, hn, hb⟩ := nm_at hk
    have hcn := h.cell hn
    rw [hb] at hcn
    clear hb h
    go_enter Tryz.func11, Tryz.ntmps11
    go_wp2_with (go_at_call 33; refine (known_k _ _).mono ?_; rintro e w' ⟨rfl, rfl⟩)
    go_ret
    exact ⟨rfl, rfl⟩
  · have hk' : isK k = false := by simpa using hk
    have HE : Hid (nmS k = ⟨#[]⟩) := by show _ = _; unfold nmS; rw [if_neg hk]
    clear hk
    go_enter Tryz.func11, Tryz.ntmps11
    go_wp2_with (go_at_call 33; refine (known_k _ _).mono ?_; rintro e w' ⟨rfl, rfl⟩)
    go_ret
    refine ⟨?_, rfl⟩
    rw [HE.out]
    rfl
theorem fd_step {s : ByteArray} {k : Nat} (h1 : 1 ≤ k) (h : k < 33) : fdF s (33 - k) k = if ((nmL.getD k ⟨#[]⟩).toList == s.toList) = true then ((k : Int), 0) else fdF s (33 - (k + 1)) (k + 1) := by
  obtain ⟨m, hm⟩ : ∃ m, 33 - k = m + 1 := ⟨32 - k, by omega⟩
  have e : 33 - (k + 1) = m := by omega
  rw [hm, e, fdF]
theorem tlm (a : Array UInt8) : (⟨a⟩ : ByteArray).toList = a.toList := Lib.toList_data _
set_option maxRecDepth 20000 in
set_option maxHeartbeats 4000000 in
theorem find_k (s : ByteArray) (w : World) (h : NmG w) : Calls Tryz.prog 9 #[.string s] w fun e w' => e = .returned (.tuple #[.int .i64 (fdS s).1, .int .i64 (fdS s).2]) ∧ w' = w := by
  obtain ⟨tt, fr, hg⟩ := h
  have hsz : (Tryz.prog.info? 65).map (·.size) = some (nmL.map Value.string).toArray.size := by kernel_rfl
  have hix0 : ∀ (k : Nat), k < 33 → ∀ w, (Instr.index 65 (.agg (nmL.map Value.string).toArray) (.int .i64 k)).run Tryz.prog w = .ok (.string (nmL.getD k ⟨#[]⟩)) w := nm_index
  generalize (nmL.map Value.string).toArray = A at hg hix0 hsz
  have HIX : Hid _ := hix0
  clear hix0
  go_enter Tryz.func9, Tryz.ntmps9
  go_wp2_with (refine wpList_load_row rfl 65 _ rfl 0 rfl tt _ fr _ hg Tryz.underlying65 rfl hsz ?_)
  go_loopw [7] (fun i wr => wr = w ∧ ∃ k : Nat, i = .int .i64 k ∧ k ≤ 33 ∧ (k = 0 ∨ (1 ≤ k ∧ fdF s (33 - k) k = fdS s))) (fun i _ => 33 - (intOf i).toNat)
  case atStart => exact ⟨rfl, 0, rfl, by omega, .inl rfl⟩
  case round =>
    obtain ⟨rfl, k, rfl, hk, hr⟩ := hrel
    have HR : Hid _ := hr
    clear hr hg hsz
    by_cases hlt : k < 33
    · have hix := HIX.out k hlt wr
      rcases Nat.eq_zero_or_pos k with hk0 | hk1
      · subst hk0
        have hz : isK 0 = false := by decide
        have hix2 : (Instr.index 65 (.agg A) (.int .i64 0)).run Tryz.prog wr = .ok (.string (nmL.getD 0 ⟨#[]⟩)) wr := HIX.out 0 (by omega) wr
        clear hix
        generalize nmL.getD 0 ⟨#[]⟩ = nm at *
        by_cases he : (nm.toList == s.toList) = true
        · go_wp2_with (go_at_call 33; refine (known_k _ _).mono ?_; rintro e w' ⟨rfl, rfl⟩)
          go_roundw
          case rel => exact ⟨trivial, 1, by go_num, by omega, .inr ⟨by omega, rfl⟩⟩
          case measure => simp [intOf]
        · have he' : (nm.toList == s.toList) = false := by simpa using he
          clear he
          go_wp2_with (go_at_call 33; refine (known_k _ _).mono ?_; rintro e w' ⟨rfl, rfl⟩)
          go_roundw
          case rel => exact ⟨trivial, 1, by go_num, by omega, .inr ⟨by omega, rfl⟩⟩
          case measure => simp [intOf]
      · have hkk : isK (k : Int) = true := isK_iff.2 (by omega)
        have HS : Hid _ := fd_step (s := s) hk1 hlt
        have HR2 : Hid _ := (HR.out.resolve_left (by omega)).2
        generalize nmL.getD k ⟨#[]⟩ = nm at *
        by_cases he : (nm.toList == s.toList) = true
        · have HF : Hid (fdS s = ((k : Int), 0)) := by show _ = _; rw [← HR2.out, HS.out, if_pos he]
          go_wp2_with (go_at_call 33; refine (known_k _ _).mono ?_; rintro e w' ⟨rfl, rfl⟩)
          go_ret2
          rw [HF.out]
          exact ⟨rfl, rfl⟩
        · have he' : (nm.toList == s.toList) = false := by simpa using he
          have HF : Hid (fdF s (33 - (k + 1)) (k + 1) = fdS s) := by show _ = _; rw [← HR2.out, HS.out, if_neg he]
          clear he
          go_wp2_with (go_at_call 33; refine (known_k _ _).mono ?_; rintro e w' ⟨rfl, rfl⟩)
          go_roundw
          case rel => exact ⟨trivial, k + 1, by go_num, by omega, .inr ⟨by omega, HF.out⟩⟩
          case measure => simp [intOf]; omega
    · have hk33 : k = 33 := by omega
      subst hk33
      have HF : Hid (fdS s = (0, odS s)) := by
        show _ = _
        rw [← (HR.out.resolve_left (by omega)).2]
        rfl
      clear hlt hk
      go_wp2_with fail
      all_goals
        go_ret2
        refine ⟨?_, rfl⟩
        rw [HF.out]
        simp_all [odS, odL, tlm]
end Go.Proofs.YtgaegajcejpmdaaGreatDoor
namespace Go.Proofs.YtgaegajcejpmdaaGreatDoor
open Go.RowKit
set_option linter.unusedVariables false

end Go.Proofs.YtgaegajcejpmdaaGreatDoor
