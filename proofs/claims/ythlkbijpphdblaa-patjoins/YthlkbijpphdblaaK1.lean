/- Trees of the second telling in memory. -/
import Derived.Test.YthlkbijpphdblaaK0
import Derived.Test.YthlkbijpphdblaaZ46
import Derived.Test.YthlkbijpphdblaaZ47
namespace Go.Proofs.Ythlkbijpphdblaa
open Go.RowKit
set_option linter.unusedVariables false

/-- A slice of ranges of the second telling whose block is one of some. -/
def SlR (O : Nat → Prop) (w : World) (v : Value) (s : List Rg) : Prop := ∃ a cap, v = .slice a s.length cap ∧ s.length ≤ cap ∧ (s = [] ∨ ∃ g off, a = some ⟨g, off, none⟩ ∧ O g ∧ g < w.heap.size ∧ ∀ (j : Nat) (hj : j < s.length), w.cell? ⟨g, off + j * 2, none⟩ = some (.int .i64 s[j].1) ∧ w.cell? ⟨g, off + j * 2 + 1, none⟩ = some (.int .i64 s[j].2))
inductive RdV (O : Nat → Prop) (w : World) : Nd → List Value → Prop
  | mk (k a b : Int) (s : List Rg) (ks : List Nd) (vs : Value) (ad : Option Addr) (cap : Nat) (css : List (List Value)) (hs : SlR O w vs s) (hl : css.length = ks.length) (hc : ks.length ≤ cap)
      (hk : ks = [] ∨ ∃ g off, ad = some ⟨g, off, none⟩ ∧ O g ∧ g < w.heap.size ∧ ∀ j r u, (css.getD j [])[r]? = some u → w.cell? ⟨g, off + j * 5 + r, none⟩ = some u)
      (hn : ∀ j (hj : j < ks.length), RdV O w ks[j] (css.getD j [])) :
      RdV O w (.nd k s a b ks) [.int .i64 k, vs, .int .i64 a, .int .i64 b, .slice ad ks.length cap]
theorem RdV.len {O : Nat → Prop} {w : World} {n : Nd} {cs : List Value} (h : RdV O w n cs) : cs.length = 5 := by cases h; rfl
theorem SlR.fro {O O' : Nat → Prop} {w w' : World} {v : Value} {s : List Rg} (h : SlR O w v s) (hO : ∀ g, O g → O' g) (hz : w.heap.size ≤ w'.heap.size) (hb : ∀ g, O g → g < w.heap.size → w'.heap[g]? = w.heap[g]?) : SlR O' w' v s := by
  obtain ⟨a, cap, rfl, hc, h⟩ := h
  refine ⟨a, cap, rfl, hc, ?_⟩
  rcases h with h | ⟨g, off, rfl, hg, hgs, h⟩
  · exact .inl h
  · exact .inr ⟨g, off, rfl, hO g hg, by omega, fun j hj => ⟨cell_of (hb g hg hgs) (h j hj).1, cell_of (hb g hg hgs) (h j hj).2⟩⟩
theorem SlR.sl {O : Nat → Prop} {w : World} {v : Value} {s : List Rg} (h : SlR O w v s) : Sl .i64 w v s := by
  obtain ⟨a, cap, rfl, hc, h⟩ := h
  refine ⟨a, cap, rfl, hc, ?_⟩
  rcases h with h | ⟨g, off, rfl, hg, hgs, h⟩
  · exact .inl h
  · exact .inr ⟨g, off, rfl, hgs, h⟩
theorem own_slr {O : Nat → Prop} {w : World} {base : Nat} {v : Value} {s : List Rg} (h : Own .i64 77 w base v s) (hO : ∀ g, base ≤ g → g < w.heap.size → O g) : SlR O w v s := by
  by_cases hs : s = []
  · subst hs
    obtain ⟨a, cap, rfl, hc, _⟩ := h.sl
    exact ⟨a, cap, rfl, hc, .inl rfl⟩
  · obtain ⟨g, cap, cur, rfl, hg, hh, h1, h2, h3, h4⟩ := own_block h hs
    refine ⟨_, cap, rfl, h2, .inr ⟨g, 0, rfl, hO g hg (lt_of hh), lt_of hh, fun j hj => ?_⟩⟩
    have := own_cells h j hj
    rw [Nat.zero_add]
    exact ⟨this.1, this.2.1⟩
theorem RdV.fro {O O' : Nat → Prop} {w w' : World} (hO : ∀ g, O g → O' g) (hz : w.heap.size ≤ w'.heap.size) (hb : ∀ g, O g → g < w.heap.size → w'.heap[g]? = w.heap[g]?) {n : Nd} {cs : List Value} (h : RdV O w n cs) : RdV O' w' n cs := by
  induction h with
  | mk k a b s ks vs ad cap css hs hl hc hk hn ih =>
    refine .mk k a b s ks vs ad cap css (hs.fro hO hz hb) hl hc ?_ ih
    rcases hk with h | ⟨g, off, rfl, hg, hgs, h⟩
    · exact .inl h
    · exact .inr ⟨g, off, rfl, hO g hg, by omega, fun j r u hu => cell_of (hb g hg hgs) (h j r u hu)⟩
theorem RdV.bel {w w0 w1 w' : World} {n : Nd} {cs : List Value} (h : RdV (Nw w0 w1) w1 n cs) (hb : Below w1.heap.size w1 w') : RdV (Nw w0 w') w' n cs :=
  h.fro (fun g hg => ⟨hg.1, by have := hb.size; have := hg.2; omega⟩) hb.size (fun g hg hgs => hb.block g hgs)
theorem rd_form {O : Nat → Prop} {w : World} {n : Nd} {cs : List Value} (h : RdV O w n cs) : ∃ (q0 : Int) (s0 : Option Addr) (s1 s2 : Nat) (q2 q3 : Int) (t0 : Option Addr) (t1 t2 : Nat), cs = [.int .i64 q0, .slice s0 s1 s2, .int .i64 q2, .int .i64 q3, .slice t0 t1 t2] := by
  cases h with
  | mk k a b s ks vs ad cap css hs hl hc hk hn =>
    obtain ⟨sa, sc, rfl, _⟩ := hs
    exact ⟨_, _, _, _, _, _, _, _, _, rfl⟩
/-- Rows of nodes. -/
structure RdsV (O : Nat → Prop) (w : World) (ns : List Nd) (css : List (List Value)) : Prop where
  len : css.length = ns.length
  nd : ∀ j (hj : j < ns.length), RdV O w ns[j] (css.getD j [])
theorem RdsV.nil (O : Nat → Prop) (w : World) : RdsV O w [] [] := ⟨rfl, fun j hj => by simp at hj⟩
theorem RdsV.fro {O O' : Nat → Prop} {w w' : World} (hO : ∀ g, O g → O' g) (hz : w.heap.size ≤ w'.heap.size) (hb : ∀ g, O g → g < w.heap.size → w'.heap[g]? = w.heap[g]?) {ns : List Nd} {css : List (List Value)} (h : RdsV O w ns css) : RdsV O' w' ns css :=
  ⟨h.len, fun j hj => (h.nd j hj).fro hO hz hb⟩
theorem RdsV.snoc {O : Nat → Prop} {w : World} {ns : List Nd} {css : List (List Value)} {n : Nd} {cs : List Value} (h : RdsV O w ns css) (hn : RdV O w n cs) : RdsV O w (ns ++ [n]) (css ++ [cs]) := by
  refine ⟨by simp [h.len], fun j hj => ?_⟩
  by_cases hlt : j < ns.length
  · have := h.nd j hlt
    rw [List.getElem_append_left hlt]
    rw [List.getD_eq_getElem?_getD, List.getElem?_append_left (by rw [h.len]; exact hlt), ← List.getD_eq_getElem?_getD]
    exact this
  · have he : j = ns.length := by simp at hj; omega
    subst he
    rw [List.getD_eq_getElem?_getD, List.getElem?_append_right (by rw [h.len]; omega)]
    simpa [h.len] using hn
theorem RdsV.five {O : Nat → Prop} {w : World} {ns : List Nd} {css : List (List Value)} (h : RdsV O w ns css) : ∀ c ∈ css, c.length = 5 := fun c hc => by
  obtain ⟨j, hj, rfl⟩ := List.getElem_of_mem hc
  have hj' : j < ns.length := by rw [← h.len]; exact hj
  have := (h.nd j hj').len
  simpa [List.getD_eq_getElem?_getD, hj] using this
theorem row_cellsR {O : Nat → Prop} {w : World} {ns : List Nd} {css : List (List Value)} {base g cap n : Nat} (h : RdsV O w ns css) (hr : w.ownsRow base 38 5 (.slice (some ⟨g, 0, none⟩) n cap) n css.flatten) : ∀ j r u, (css.getD j [])[r]? = some u → w.cell? ⟨g, 0 + j * 5 + r, none⟩ = some u := fun j r u hu => by
  have hj : j < css.length := by
    rcases Nat.lt_or_ge j css.length with q | q
    · exact q
    · rw [List.getD_eq_getElem?_getD, List.getElem?_eq_none q] at hu; simp at hu
  have hr5 : r < 5 := by
    have := h.five (css.getD j []) (by rw [List.getD_eq_getElem?_getD, List.getElem?_eq_getElem hj]; simp)
    rcases Nat.lt_or_ge r 5 with q | q
    · exact q
    · rw [List.getElem?_eq_none (by omega)] at hu; cases hu
  have e := flat_get css h.five j r hr5
  have := hr.cells (g := g) rfl (j * 5 + r) u (by rw [e]; exact hu)
  rw [addr_add] at this
  rw [Nat.zero_add] at this ⊢
  exact this
theorem info_rn : (Try.prog.info? 38).map (fun i => (i.zero.map fun z => z.cells.size, i.size, i.bytes)) = some (some 5, 5, 72) := by kernel_rfl
theorem info_rnp : ∃ i z, Try.prog.info? 38 = some i ∧ i.zero = some z ∧ z.cells.size = 5 ∧ i.size = 5 ∧ i.bytes = 72 := by
  have := info_rn
  cases h : Try.prog.info? 38 with
  | none => rw [h] at this; simp at this
  | some i =>
    rw [h] at this
    simp at this
    obtain ⟨⟨z, h1, h2⟩, h3, h4⟩ := this
    exact ⟨i, z, rfl, h1, h2, h3, h4⟩
/-- An append of one node of the second telling. -/
theorem step_putR {ops : Array Oper} {o : Oper} {a : Act} {K : Act → World → Prop} {Q : Exit → Act → World → Prop} {E : Prop} (W : World) (i : TypeInfo) (z : Value) (hi : Try.prog.info? 38 = some i) (hz : i.zero = some z) (hzc : z.cells.size = 5) (hz1 : i.size = 5) (hz3 : i.bytes = 72)
    (s x : Operand) (hgd : o.guard = none) (ho : o.op = .call { callee := .builtin .append, args := #[s, x], argTypes := #[36, 36] }) (base : Nat) (v : Value) (n : Nat) (xs : List Value) (hs : a.eval s = v) (hown : W.ownsRow base 38 5 v n xs) (c0 c1 c2 c3 c4 : Value) (hone : ∀ u ∈ [c0, c1, c2, c3, c4], u.oneCell' = true) (hx : a.eval x = .slice (some ⟨W.heap.size, 0, none⟩) 1 1) (hl : n ≤ 1000000) (hbase : base ≤ W.heap.size)
    (h : ∀ g cap w', w'.ownsRow base 38 5 (.slice (some ⟨g, 0, none⟩) (n + 1) cap) (n + 1) (xs ++ [c0, c1, c2, c3, c4]) → Fro (fun j => v.ownBlock = some j) W w' → (v.ownBlock = some g ∨ W.heap.size ≤ g) → base ≤ g → g < w'.heap.size → K (a.put o.dst (.slice (some ⟨g, 0, none⟩) (n + 1) cap)) w') : if Region.wanted o (yielded ops a.tmps) = true then Oper.wp Try.prog o a (W.alloc (.cells #[c0, c1, c2, c3, c4] 38)) K Q else E := by
  have hb : Below W.heap.size W (W.alloc (.cells #[c0, c1, c2, c3, c4] 38)) := (Below.refl _ _).alloc (Nat.le_refl _) _
  have hown1 := row_below hown hb
  refine step_append_lies (P := Try.prog) _ hgd s x 36 ho base 38 i z 5 72 Try.underlying36 hi hz hz1 hz3 hzc (by decide) v n xs hs hown1 ⟨W.heap.size, 0, none⟩ 1 1 [c0, c1, c2, c3, c4] hx rfl (World.news_of_block (nw_heap _ _)) hone (by decide) (by unfold maxLen; omega) (by omega) (by rw [sza]; omega) _ rfl ?_
  intro g2 cap2 w7 hown7 hg7 hat7 hlt7
  refine h g2 cap2 w7 hown7 ((Fro.below hb).trans (Fro.grown hg7 (fun j hj => hj))) ?_ ?_ hlt7
  · rcases hat7 with q | q
    · exact .inl q
    · simp at q
      exact .inr (by omega)
  · exact (row_base hown7 g2 rfl).1
/-- A node's value as the second telling returns it. -/
abbrev rdA (c0 c1 c2 c3 c4 : Value) : Value := .agg #[c0, c1, c2, c3, c4]
def OnQ (n : Nd) (w : World) (e : Ending) (w' : World) : Prop := ∃ (q0 : Int) (s0 : Option Addr) (s1 s2 : Nat) (q2 q3 : Int) (t0 : Option Addr) (t1 t2 : Nat), e = .returned (rdA (.int .i64 q0) (.slice s0 s1 s2) (.int .i64 q2) (.int .i64 q3) (.slice t0 t1 t2)) ∧ RdV (Nw w w') w' n [.int .i64 q0, .slice s0 s1 s2, .int .i64 q2, .int .i64 q3, .slice t0 t1 t2] ∧ Below w.heap.size w w'
end Go.Proofs.Ythlkbijpphdblaa
