/- Patterns: what they are; rows of nodes in memory. -/
import Derived.Test.YthlkbijpphdblaaB5
namespace Go.Proofs.Ythlkbijpphdblaa
open Go.RowKit
set_option linter.unusedVariables false

abbrev symN (s : List Rg) : Nd := .nd 2 s 0 0 []
def pieS (at' : Nat → R Nd) (l : Bs) (k : Nat) : R Nd := (at' k).bind fun x k1 => (timS l k1).bind fun p k2 => .ok (if p.2.2 = true then .nd 5 [] p.1 p.2.1 [x] else x) k2
def mkRow : List Nd → Nd
  | [] => .nd 1 [] 0 0 []
  | [x] => x
  | x :: y :: l => .nd 3 [] 0 0 (x :: y :: l)
def pcsS (at' : Nat → R Nd) (l : Bs) : Nat → List Nd → Nat → R Nd
  | 0, _, _ => out
  | f + 1, acc, k => (goS l k).bind fun b _ => if b = true then (pieS at' l k).bind fun x k' => pcsS at' l f (acc ++ [x]) k' else .ok (mkRow acc) k
def rowS (at' : Nat → R Nd) (l : Bs) (k : Nat) : R Nd := pcsS at' l (l.length + 1) [] k
def mkAlt : List Nd → Nd
  | [x] => x
  | l => .nd 4 [] 0 0 l
def alsS (at' : Nat → R Nd) (l : Bs) : Nat → List Nd → Nat → R Nd
  | 0, _, _ => out
  | f + 1, acc, k => if skB l 124 k = true then (rowS at' l (k + 1)).bind fun x k' => alsS at' l f (acc ++ [x]) k' else .ok (mkAlt acc) k
def patS (at' : Nat → R Nd) (l : Bs) (k : Nat) : R Nd := (rowS at' l k).bind fun x k' => alsS at' l (l.length + 1) [x] k'
def atomS (l : Bs) : Nat → Nat → Nat → R Nd
  | 0, _, _ => out
  | d + 1, o, k => (letS l k).bind fun p _ =>
    if p.1 = 40 then (entS o k).bind fun _ k1 => (patS (atomS l d (o + 1)) l k1).bind fun x k2 => (sgnS l 41 k2).bind fun _ k3 => .ok x k3
    else if p.1 = 91 then (clsS l 41 o k).bind fun s k1 => .ok (symN s) k1
    else if p.1 = 92 then (epS l k).bind fun s k1 => .ok (symN s) k1
    else if p.1 = 46 then .ok (symN (notR 0 (ofR [(10, 10), (13, 13)]))) (k + 1)
    else if p.1 = 63 then .bad k 2 else if p.1 = 42 then .bad k 2 else if p.1 = 43 then .bad k 2 else if p.1 = 41 then .bad k 2
    else if p.1 = 124 then .bad k 2 else if p.1 = 93 then .bad k 2 else if p.1 = 123 then .bad k 2 else if p.1 = 125 then .bad k 2
    else .ok (symN [(p.1, p.1)]) (k + p.2)
/-- Rows of nodes. -/
structure NdsV (O : Nat → Prop) (w : World) (ns : List Nd) (css : List (List Value)) : Prop where
  len : css.length = ns.length
  nd : ∀ j (hj : j < ns.length), NdV O w ns[j] (css.getD j [])
theorem NdsV.nil (O : Nat → Prop) (w : World) : NdsV O w [] [] := ⟨rfl, fun j hj => by simp at hj⟩
theorem NdsV.fro {O O' : Nat → Prop} {w w' : World} (hO : ∀ g, O g → O' g) (hz : w.heap.size ≤ w'.heap.size) (hb : ∀ g, O g → g < w.heap.size → w'.heap[g]? = w.heap[g]?) {ns : List Nd} {css : List (List Value)} (h : NdsV O w ns css) : NdsV O' w' ns css :=
  ⟨h.len, fun j hj => (h.nd j hj).fro hO hz hb⟩
theorem NdsV.snoc {O : Nat → Prop} {w : World} {ns : List Nd} {css : List (List Value)} {n : Nd} {cs : List Value} (h : NdsV O w ns css) (hn : NdV O w n cs) : NdsV O w (ns ++ [n]) (css ++ [cs]) := by
  refine ⟨by simp [h.len], fun j hj => ?_⟩
  by_cases hlt : j < ns.length
  · have := h.nd j hlt
    rw [List.getElem_append_left hlt]
    rw [List.getD_eq_getElem?_getD, List.getElem?_append_left (by rw [h.len]; exact hlt), ← List.getD_eq_getElem?_getD]
    exact this
  · have he : j = ns.length := by simp at hj; omega
    subst he
    rw [List.getD_eq_getElem?_getD, List.getElem?_append_right (by rw [h.len]; omega)]
    simpa [h.len] using hn
theorem flat_get : ∀ (css : List (List Value)), (∀ c ∈ css, c.length = 5) → ∀ (j r : Nat), r < 5 → css.flatten[j * 5 + r]? = (css.getD j [])[r]?
  | [], _, j, r, hr => by simp
  | c :: css, h, 0, r, hr => by
    have hc := h c (by simp)
    rw [List.flatten_cons, List.getElem?_append_left (by omega)]
    simp
  | c :: css, h, j + 1, r, hr => by
    have hc := h c (by simp)
    have ih := flat_get css (fun x hx => h x (by simp [hx])) j r hr
    rw [List.flatten_cons, List.getElem?_append_right (by omega)]
    have e : (j + 1) * 5 + r - c.length = j * 5 + r := by omega
    rw [e, ih]
    simp
theorem NdsV.five {O : Nat → Prop} {w : World} {ns : List Nd} {css : List (List Value)} (h : NdsV O w ns css) : ∀ c ∈ css, c.length = 5 := fun c hc => by
  obtain ⟨j, hj, rfl⟩ := List.getElem_of_mem hc
  have hj' : j < ns.length := by rw [← h.len]; exact hj
  have := (h.nd j hj').len
  simpa [List.getD_eq_getElem?_getD, hj] using this
/-- The cells of a row's nodes. -/
theorem row_cells {O : Nat → Prop} {w : World} {ns : List Nd} {css : List (List Value)} {base g cap n : Nat} (h : NdsV O w ns css) (hr : w.ownsRow base 27 5 (.slice (some ⟨g, 0, none⟩) n cap) n css.flatten) : ∀ j r u, (css.getD j [])[r]? = some u → w.cell? ⟨g, 0 + j * 5 + r, none⟩ = some u := fun j r u hu => by
  have hj : j < css.length := by
    rcases Nat.lt_or_ge j css.length with q | q
    · exact q
    · rw [List.getD_eq_getElem?_getD, List.getElem?_eq_none q] at hu; simp at hu
  have hr5 : r < 5 := by
    have := h.five (css.getD j []) (by rw [List.getD_eq_getElem?_getD, List.getElem?_eq_getElem hj]; simp)
    rcases Nat.lt_or_ge r 5 with q | q
    · exact q
    · rw [List.getElem?_eq_none (by omega)] at hu; cases hu
  have e := flat_get css h.five j r hr5
  have := hr.cells (g := g) rfl (j * 5 + r) u (by rw [e]; exact hu)
  rw [addr_add] at this
  rw [Nat.zero_add] at this ⊢
  exact this
theorem info_nd : (Try.prog.info? 27).map (fun i => (i.zero.map fun z => z.cells.size, i.size, i.bytes)) = some (some 5, 5, 72) := by kernel_rfl
theorem info_ndp : ∃ i z, Try.prog.info? 27 = some i ∧ i.zero = some z ∧ z.cells.size = 5 ∧ i.size = 5 ∧ i.bytes = 72 := by
  have := info_nd
  cases h : Try.prog.info? 27 with
  | none => rw [h] at this; simp at this
  | some i =>
    rw [h] at this
    simp at this
    obtain ⟨⟨z, h1, h2⟩, h3, h4⟩ := this
    exact ⟨i, z, rfl, h1, h2, h3, h4⟩
theorem nd_one {O : Nat → Prop} {w : World} {n : Nd} {cs : List Value} (h : NdV O w n cs) : ∀ u ∈ cs, u.oneCell' = true := by
  cases h with
  | mk k a b s ks vs ad cap css hs hl hc hk hn =>
    obtain ⟨sa, sc, rfl, _⟩ := hs
    intro u hu
    simp at hu
    rcases hu with rfl | rfl | rfl | rfl | rfl <;> rfl
/-- An append of one node. -/
theorem wpList_putN {ops : Array Oper} {rest : List Oper} {o : Oper} {a : Act} {Q : Exit → Act → World → Prop} (W : World) (i : TypeInfo) (z : Value) (hi : Try.prog.info? 27 = some i) (hz : i.zero = some z) (hzc : z.cells.size = 5) (hz1 : i.size = 5) (hz3 : i.bytes = 72)
    (s x : Operand) (hgd : o.guard = none) (ho : o.op = .call { callee := .builtin .append, args := #[s, x], argTypes := #[25, 25] }) (base : Nat) (v : Value) (n : Nat) (xs : List Value) (hs : a.eval s = v) (hown : W.ownsRow base 27 5 v n xs) (c0 c1 c2 c3 c4 : Value) (hone : ∀ u ∈ [c0, c1, c2, c3, c4], u.oneCell' = true) (hx : a.eval x = .slice (some ⟨W.heap.size, 0, none⟩) 1 1) (hl : n ≤ 1000000) (hbase : base ≤ W.heap.size)
    (h : ∀ g cap w', w'.ownsRow base 27 5 (.slice (some ⟨g, 0, none⟩) (n + 1) cap) (n + 1) (xs ++ [c0, c1, c2, c3, c4]) → Fro (fun j => v.ownBlock = some j) W w' → (v.ownBlock = some g ∨ W.heap.size ≤ g) → base ≤ g → g < w'.heap.size → wpList Try.prog ops Q rest (a.put o.dst (.slice (some ⟨g, 0, none⟩) (n + 1) cap)) w') : wpList Try.prog ops Q (o :: rest) a (W.alloc (.cells #[c0, c1, c2, c3, c4] 27)) := by
  have hb : Below W.heap.size W (W.alloc (.cells #[c0, c1, c2, c3, c4] 27)) := (Below.refl _ _).alloc (Nat.le_refl _) _
  have hown1 := row_below hown hb
  refine wpList_append_lies (P := Try.prog) _ hgd s x 25 ho base 27 i z 5 72 Try.underlying25 hi hz hz1 hz3 hzc (by decide) v n xs hs hown1 ⟨W.heap.size, 0, none⟩ 1 1 [c0, c1, c2, c3, c4] hx rfl (World.news_of_block (nw_heap _ _)) hone (by decide) (by unfold maxLen; omega) (by omega) (by rw [sza]; omega) _ rfl ?_
  intro g2 cap2 w7 hown7 hg7 hat7 hlt7
  refine h g2 cap2 w7 hown7 ((Fro.below hb).trans (Fro.grown hg7 (fun j hj => hj))) ?_ ?_ hlt7
  · rcases hat7 with q | q
    · exact .inl q
    · simp at q
      exact .inr (by omega)
  · exact (row_base hown7 g2 rfl).1
end Go.Proofs.Ythlkbijpphdblaa
