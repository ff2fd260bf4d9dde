/- Joined: B5, B6. -/
import Derived.Test.YthlkbijpphdblaaB4
namespace Go.Proofs.Ythlkbijpphdblaa
open Go.RowKit
set_option linter.unusedVariables false

inductive Nd where
  | nd (kind : Int) (set : List Rg) (mn mx : Int) (kids : List Nd)
/-- A slice of ranges whose block is one of some. -/
def SlO (O : Nat → Prop) (w : World) (v : Value) (s : List Rg) : Prop := ∃ a cap, v = .slice a s.length cap ∧ s.length ≤ cap ∧ (s = [] ∨ ∃ g off, a = some ⟨g, off, none⟩ ∧ O g ∧ g < w.heap.size ∧ ∀ (j : Nat) (hj : j < s.length), w.cell? ⟨g, off + j * 2, none⟩ = some (.int .i32 s[j].1) ∧ w.cell? ⟨g, off + j * 2 + 1, none⟩ = some (.int .i32 s[j].2))
/-- A node's five cells; its kids' lie in blocks that are some. -/
inductive NdV (O : Nat → Prop) (w : World) : Nd → List Value → Prop
  | mk (k a b : Int) (s : List Rg) (ks : List Nd) (vs : Value) (ad : Option Addr) (cap : Nat) (css : List (List Value)) (hs : SlO O w vs s) (hl : css.length = ks.length) (hc : ks.length ≤ cap)
      (hk : ks = [] ∨ ∃ g off, ad = some ⟨g, off, none⟩ ∧ O g ∧ g < w.heap.size ∧ (∃ arr, w.heap[g]? = some (.cells arr 27 (0, 0))) ∧ ∀ j r u, (css.getD j [])[r]? = some u → w.cell? ⟨g, off + j * 5 + r, none⟩ = some u)
      (hn : ∀ j (hj : j < ks.length), NdV O w ks[j] (css.getD j [])) :
      NdV O w (.nd k s a b ks) [.int .i64 k, vs, .int .i64 a, .int .i64 b, .slice ad ks.length cap]
theorem NdV.len {O : Nat → Prop} {w : World} {n : Nd} {cs : List Value} (h : NdV O w n cs) : cs.length = 5 := by cases h; rfl
theorem cell_of {w w' : World} {g i : Nat} {v : Value} (hb : w'.heap[g]? = w.heap[g]?) (h : w.cell? ⟨g, i, none⟩ = some v) : w'.cell? ⟨g, i, none⟩ = some v := by
  simp only [World.cell?] at h ⊢
  rw [hb]
  exact h
theorem SlO.fro {O O' : Nat → Prop} {w w' : World} {v : Value} {s : List Rg} (h : SlO O w v s) (hO : ∀ g, O g → O' g) (hz : w.heap.size ≤ w'.heap.size) (hb : ∀ g, O g → g < w.heap.size → w'.heap[g]? = w.heap[g]?) : SlO O' w' v s := by
  obtain ⟨a, cap, rfl, hc, h⟩ := h
  refine ⟨a, cap, rfl, hc, ?_⟩
  rcases h with h | ⟨g, off, rfl, hg, hgs, h⟩
  · exact .inl h
  · exact .inr ⟨g, off, rfl, hO g hg, by omega, fun j hj => ⟨cell_of (hb g hg hgs) (h j hj).1, cell_of (hb g hg hgs) (h j hj).2⟩⟩
theorem SlO.sl {O : Nat → Prop} {w : World} {v : Value} {s : List Rg} (h : SlO O w v s) : Sl .i32 w v s := by
  obtain ⟨a, cap, rfl, hc, h⟩ := h
  refine ⟨a, cap, rfl, hc, ?_⟩
  rcases h with h | ⟨g, off, rfl, hg, hgs, h⟩
  · exact .inl h
  · exact .inr ⟨g, off, rfl, hgs, h⟩
theorem own_slo {O : Nat → Prop} {w : World} {base : Nat} {v : Value} {s : List Rg} (h : Own .i32 64 w base v s) (hO : ∀ g, base ≤ g → g < w.heap.size → O g) : SlO O w v s := by
  by_cases hs : s = []
  · subst hs
    obtain ⟨a, cap, rfl, hc, _⟩ := h.sl
    exact ⟨a, cap, rfl, hc, .inl rfl⟩
  · obtain ⟨g, cap, cur, rfl, hg, hh, h1, h2, h3, h4⟩ := own_block h hs
    refine ⟨_, cap, rfl, h2, .inr ⟨g, 0, rfl, hO g hg (lt_of hh), lt_of hh, fun j hj => ?_⟩⟩
    have := own_cells h j hj
    rw [Nat.zero_add]
    exact ⟨this.1, this.2.1⟩
theorem NdV.fro {O O' : Nat → Prop} {w w' : World} (hO : ∀ g, O g → O' g) (hz : w.heap.size ≤ w'.heap.size) (hb : ∀ g, O g → g < w.heap.size → w'.heap[g]? = w.heap[g]?) {n : Nd} {cs : List Value} (h : NdV O w n cs) : NdV O' w' n cs := by
  induction h with
  | mk k a b s ks vs ad cap css hs hl hc hk hn ih =>
    refine .mk k a b s ks vs ad cap css (hs.fro hO hz hb) hl hc ?_ ih
    rcases hk with h | ⟨g, off, rfl, hg, hgs, ⟨arr, harr⟩, h⟩
    · exact .inl h
    · exact .inr ⟨g, off, rfl, hO g hg, by omega, ⟨arr, (hb g hg hgs).trans harr⟩, fun j r u hu => cell_of (hb g hg hgs) (h j r u hu)⟩
/-- Nodes that are new since. -/
abbrev Nw (w w' : World) : Nat → Prop := fun g => w.heap.size ≤ g ∧ g < w'.heap.size
def MvN (P : Nat) (w : World) (vb : Value) (l : Bs) (o : Nat) (r : R Nd) (e : Ending) (w' : World) : Prop := match r with
  | .ok n k => ∃ (q0 : Int) (s0 : Option Addr) (s1 s2 : Nat) (q2 q3 : Int) (t0 : Option Addr) (t1 t2 : Nat), e = .returned (.agg #[.int .i64 q0, .slice s0 s1 s2, .int .i64 q2, .int .i64 q3, .slice t0 t1 t2]) ∧ NdV (Nw w w') w' n [.int .i64 q0, .slice s0 s1 s2, .int .i64 q2, .int .i64 q3, .slice t0 t1 t2] ∧ In P w' vb l k o ∧ Fro (fun j => j = P) w w'
  | .bad p er => e = .panicked (flt p er) ∧ Fro (fun j => j = P) w w'
theorem mn_bad {P : Nat} {w w' : World} {vb : Value} {l : Bs} {o : Nat} {X : R Nd} {p er : Int} (hx : .bad p er = X) (hf : Fro (fun j => j = P) w w') : MvN P w vb l o X (.panicked (flt p er)) w' := by
  subst hx
  exact ⟨rfl, hf⟩
theorem mn_ok {P : Nat} {w w' : World} {vb : Value} {l : Bs} {o : Nat} {X : R Nd} {n : Nd} {k : Nat} {c0 c1 c2 c3 c4 : Value} (hx : .ok n k = X) (hn : NdV (Nw w w') w' n [c0, c1, c2, c3, c4]) (hi : In P w' vb l k o) (hf : Fro (fun j => j = P) w w') : MvN P w vb l o X (.returned (.agg #[c0, c1, c2, c3, c4])) w' := by
  subst hx
  have hn' := hn
  generalize hcs : [c0, c1, c2, c3, c4] = cs at hn
  cases hn with
  | mk k a b s ks vs ad cap css hs hl hc hk hn =>
    obtain ⟨sa, sc, rfl, _⟩ := hs
    simp only [List.cons.injEq, and_true] at hcs
    obtain ⟨rfl, rfl, rfl, rfl, rfl⟩ := hcs
    exact ⟨_, _, _, _, _, _, _, _, _, rfl, hn', hi, hf⟩
/-- Five cells are written. -/
abbrev put5 (w : World) (X : Nat) (c0 c1 c2 c3 c4 : Value) : World := ((((w.setCell ⟨X, 0, none⟩ c0).setCell ⟨X, 1, none⟩ c1).setCell ⟨X, 2, none⟩ c2).setCell ⟨X, 3, none⟩ c3).setCell ⟨X, 4, none⟩ c4
theorem put5_at {w : World} {X : Nat} {t : TypeId} {a0 a1 a2 a3 a4 : Value} (h : w.heap[X]? = some (.cells #[a0, a1, a2, a3, a4] t (0, 0))) (c0 c1 c2 c3 c4 : Value) : (put5 w X c0 c1 c2 c3 c4).heap[X]? = some (.cells #[c0, c1, c2, c3, c4] t (0, 0)) := by
  have h0 := bset (i := 0) h c0
  have h1 := bset (i := 1) h0 c1
  have h2 := bset (i := 2) h1 c2
  have h3 := bset (i := 3) h2 c3
  have h4 := bset (i := 4) h3 c4
  simpa using h4
theorem put5_fro {O : Nat → Prop} {w W : World} {X : Nat} (h : Fro O w W) (hX : O X ∨ w.heap.size ≤ X) (c0 c1 c2 c3 c4 : Value) : Fro O w (put5 W X c0 c1 c2 c3 c4) :=
  ((((h.set hX c0).set hX c1).set hX c2).set hX c3).set hX c4
theorem cells5 {U : World} {X : Nat} {a b c d e : Value} {t : TypeId} (hx : U.heap[X]? = some (.cells #[a, b, c, d, e] t (0, 0))) : (U.cell? ⟨X, 0, none⟩ = some a ∧ U.cell? ⟨X, 1, none⟩ = some b ∧ U.cell? ⟨X, 2, none⟩ = some c ∧ U.cell? ⟨X, 3, none⟩ = some d ∧ U.cell? ⟨X, 4, none⟩ = some e) ∧ U.frozen? ⟨X, 0, none⟩ = false ∧ U.frozen? ⟨X, 1, none⟩ = false ∧ U.frozen? ⟨X, 2, none⟩ = false ∧ U.frozen? ⟨X, 3, none⟩ = false ∧ U.frozen? ⟨X, 4, none⟩ = false := by
  refine ⟨⟨?_, ?_, ?_, ?_, ?_⟩, ?_, ?_, ?_, ?_, ?_⟩ <;> simp [World.cell?, World.frozen?, hx]
theorem put5_blk (w : World) (X : Nat) (c0 c1 c2 c3 c4 : Value) (g : Nat) (hg : g ≠ X) : (put5 w X c0 c1 c2 c3 c4).heap[g]? = w.heap[g]? := by
  have e : ∀ (W : World) (i : Nat) (c : Value), (W.setCell ⟨X, i, none⟩ c).heap[g]? = W.heap[g]? := fun W i c => Below.heap_setCell _ _ _ _ hg
  unfold put5
  rw [e, e, e, e, e]
theorem put5_size (w : World) (X : Nat) (c0 c1 c2 c3 c4 : Value) : (put5 w X c0 c1 c2 c3 c4).heap.size = w.heap.size := by simp [World.setCell]
end Go.Proofs.Ythlkbijpphdblaa
namespace Go.Proofs.Ythlkbijpphdblaa
open Go.RowKit
set_option linter.unusedVariables false

abbrev symN (s : List Rg) : Nd := .nd 2 s 0 0 []
def pieS (at' : Nat → R Nd) (l : Bs) (k : Nat) : R Nd := (at' k).bind fun x k1 => (timS l k1).bind fun p k2 => .ok (if p.2.2 = true then .nd 5 [] p.1 p.2.1 [x] else x) k2
def mkRow : List Nd → Nd
  | [] => .nd 1 [] 0 0 []
  | [x] => x
  | x :: y :: l => .nd 3 [] 0 0 (x :: y :: l)
def pcsS (at' : Nat → R Nd) (l : Bs) : Nat → List Nd → Nat → R Nd
  | 0, _, _ => out
  | f + 1, acc, k => (goS l k).bind fun b _ => if b = true then (pieS at' l k).bind fun x k' => pcsS at' l f (acc ++ [x]) k' else .ok (mkRow acc) k
def rowS (at' : Nat → R Nd) (l : Bs) (k : Nat) : R Nd := pcsS at' l (l.length + 1) [] k
def mkAlt : List Nd → Nd
  | [x] => x
  | l => .nd 4 [] 0 0 l
def alsS (at' : Nat → R Nd) (l : Bs) : Nat → List Nd → Nat → R Nd
  | 0, _, _ => out
  | f + 1, acc, k => if skB l 124 k = true then (rowS at' l (k + 1)).bind fun x k' => alsS at' l f (acc ++ [x]) k' else .ok (mkAlt acc) k
def patS (at' : Nat → R Nd) (l : Bs) (k : Nat) : R Nd := (rowS at' l k).bind fun x k' => alsS at' l (l.length + 1) [x] k'
def atomS (l : Bs) : Nat → Nat → Nat → R Nd
  | 0, _, _ => out
  | d + 1, o, k => (letS l k).bind fun p _ =>
    if p.1 = 40 then (entS o k).bind fun _ k1 => (patS (atomS l d (o + 1)) l k1).bind fun x k2 => (sgnS l 41 k2).bind fun _ k3 => .ok x k3
    else if p.1 = 91 then (clsS l 41 o k).bind fun s k1 => .ok (symN s) k1
    else if p.1 = 92 then (epS l k).bind fun s k1 => .ok (symN s) k1
    else if p.1 = 46 then .ok (symN (notR 0 (ofR [(10, 10), (13, 13)]))) (k + 1)
    else if p.1 = 63 then .bad k 2 else if p.1 = 42 then .bad k 2 else if p.1 = 43 then .bad k 2 else if p.1 = 41 then .bad k 2
    else if p.1 = 124 then .bad k 2 else if p.1 = 93 then .bad k 2 else if p.1 = 123 then .bad k 2 else if p.1 = 125 then .bad k 2
    else .ok (symN [(p.1, p.1)]) (k + p.2)
/-- Rows of nodes. -/
structure NdsV (O : Nat → Prop) (w : World) (ns : List Nd) (css : List (List Value)) : Prop where
  len : css.length = ns.length
  nd : ∀ j (hj : j < ns.length), NdV O w ns[j] (css.getD j [])
theorem NdsV.nil (O : Nat → Prop) (w : World) : NdsV O w [] [] := ⟨rfl, fun j hj => by simp at hj⟩
theorem NdsV.fro {O O' : Nat → Prop} {w w' : World} (hO : ∀ g, O g → O' g) (hz : w.heap.size ≤ w'.heap.size) (hb : ∀ g, O g → g < w.heap.size → w'.heap[g]? = w.heap[g]?) {ns : List Nd} {css : List (List Value)} (h : NdsV O w ns css) : NdsV O' w' ns css :=
  ⟨h.len, fun j hj => (h.nd j hj).fro hO hz hb⟩
theorem NdsV.snoc {O : Nat → Prop} {w : World} {ns : List Nd} {css : List (List Value)} {n : Nd} {cs : List Value} (h : NdsV O w ns css) (hn : NdV O w n cs) : NdsV O w (ns ++ [n]) (css ++ [cs]) := by
  refine ⟨by simp [h.len], fun j hj => ?_⟩
  by_cases hlt : j < ns.length
  · have := h.nd j hlt
    rw [List.getElem_append_left hlt]
    rw [List.getD_eq_getElem?_getD, List.getElem?_append_left (by rw [h.len]; exact hlt), ← List.getD_eq_getElem?_getD]
    exact this
  · have he : j = ns.length := by simp at hj; omega
    subst he
    rw [List.getD_eq_getElem?_getD, List.getElem?_append_right (by rw [h.len]; omega)]
    simpa [h.len] using hn
theorem flat_get : ∀ (css : List (List Value)), (∀ c ∈ css, c.length = 5) → ∀ (j r : Nat), r < 5 → css.flatten[j * 5 + r]? = (css.getD j [])[r]?
  | [], _, j, r, hr => by simp
  | c :: css, h, 0, r, hr => by
    have hc := h c (by simp)
    rw [List.flatten_cons, List.getElem?_append_left (by omega)]
    simp
  | c :: css, h, j + 1, r, hr => by
    have hc := h c (by simp)
    have ih := flat_get css (fun x hx => h x (by simp [hx])) j r hr
    rw [List.flatten_cons, List.getElem?_append_right (by omega)]
    have e : (j + 1) * 5 + r - c.length = j * 5 + r := by omega
    rw [e, ih]
    simp
theorem NdsV.five {O : Nat → Prop} {w : World} {ns : List Nd} {css : List (List Value)} (h : NdsV O w ns css) : ∀ c ∈ css, c.length = 5 := fun c hc => by
  obtain ⟨j, hj, rfl⟩ := List.getElem_of_mem hc
  have hj' : j < ns.length := by rw [← h.len]; exact hj
  have := (h.nd j hj').len
  simpa [List.getD_eq_getElem?_getD, hj] using this
/-- The cells of a row's nodes. -/
theorem row_cells {O : Nat → Prop} {w : World} {ns : List Nd} {css : List (List Value)} {base g cap n : Nat} (h : NdsV O w ns css) (hr : w.ownsRow base 27 5 (.slice (some ⟨g, 0, none⟩) n cap) n css.flatten) : ∀ j r u, (css.getD j [])[r]? = some u → w.cell? ⟨g, 0 + j * 5 + r, none⟩ = some u := fun j r u hu => by
  have hj : j < css.length := by
    rcases Nat.lt_or_ge j css.length with q | q
    · exact q
    · rw [List.getD_eq_getElem?_getD, List.getElem?_eq_none q] at hu; simp at hu
  have hr5 : r < 5 := by
    have := h.five (css.getD j []) (by rw [List.getD_eq_getElem?_getD, List.getElem?_eq_getElem hj]; simp)
    rcases Nat.lt_or_ge r 5 with q | q
    · exact q
    · rw [List.getElem?_eq_none (by omega)] at hu; cases hu
  have e := flat_get css h.five j r hr5
  have := hr.cells (g := g) rfl (j * 5 + r) u (by rw [e]; exact hu)
  rw [addr_add] at this
  rw [Nat.zero_add] at this ⊢
  exact this
theorem info_nd : (Try.prog.info? 27).map (fun i => (i.zero.map fun z => z.cells.size, i.size, i.bytes)) = some (some 5, 5, 72) := by kernel_rfl
theorem info_ndp : ∃ i z, Try.prog.info? 27 = some i ∧ i.zero = some z ∧ z.cells.size = 5 ∧ i.size = 5 ∧ i.bytes = 72 := by
  have := info_nd
  cases h : Try.prog.info? 27 with
  | none => rw [h] at this; simp at this
  | some i =>
    rw [h] at this
    simp at this
    obtain ⟨⟨z, h1, h2⟩, h3, h4⟩ := this
    exact ⟨i, z, rfl, h1, h2, h3, h4⟩
theorem nd_one {O : Nat → Prop} {w : World} {n : Nd} {cs : List Value} (h : NdV O w n cs) : ∀ u ∈ cs, u.oneCell' = true := by
  cases h with
  | mk k a b s ks vs ad cap css hs hl hc hk hn =>
    obtain ⟨sa, sc, rfl, _⟩ := hs
    intro u hu
    simp at hu
    rcases hu with rfl | rfl | rfl | rfl | rfl <;> rfl
/-- An append of one node. -/
theorem wpList_putN {ops : Array Oper} {rest : List Oper} {o : Oper} {a : Act} {Q : Exit → Act → World → Prop} (W : World) (i : TypeInfo) (z : Value) (hi : Try.prog.info? 27 = some i) (hz : i.zero = some z) (hzc : z.cells.size = 5) (hz1 : i.size = 5) (hz3 : i.bytes = 72)
    (s x : Operand) (hgd : o.guard = none) (ho : o.op = .call { callee := .builtin .append, args := #[s, x], argTypes := #[25, 25] }) (base : Nat) (v : Value) (n : Nat) (xs : List Value) (hs : a.eval s = v) (hown : W.ownsRow base 27 5 v n xs) (c0 c1 c2 c3 c4 : Value) (hone : ∀ u ∈ [c0, c1, c2, c3, c4], u.oneCell' = true) (hx : a.eval x = .slice (some ⟨W.heap.size, 0, none⟩) 1 1) (hl : n ≤ 1000000) (hbase : base ≤ W.heap.size)
    (h : ∀ g cap w', w'.ownsRow base 27 5 (.slice (some ⟨g, 0, none⟩) (n + 1) cap) (n + 1) (xs ++ [c0, c1, c2, c3, c4]) → Fro (fun j => v.ownBlock = some j) W w' → (v.ownBlock = some g ∨ W.heap.size ≤ g) → base ≤ g → g < w'.heap.size → wpList Try.prog ops Q rest (a.put o.dst (.slice (some ⟨g, 0, none⟩) (n + 1) cap)) w') : wpList Try.prog ops Q (o :: rest) a (W.alloc (.cells #[c0, c1, c2, c3, c4] 27)) := by
  have hb : Below W.heap.size W (W.alloc (.cells #[c0, c1, c2, c3, c4] 27)) := (Below.refl _ _).alloc (Nat.le_refl _) _
  have hown1 := row_below hown hb
  refine wpList_append_lies (P := Try.prog) _ hgd s x 25 ho base 27 i z 5 72 Try.underlying25 hi hz hz1 hz3 hzc (by decide) v n xs hs hown1 ⟨W.heap.size, 0, none⟩ 1 1 [c0, c1, c2, c3, c4] hx rfl (World.news_of_block (nw_heap _ _)) hone (by decide) (by unfold maxLen; omega) (by omega) (by rw [sza]; omega) _ rfl ?_
  intro g2 cap2 w7 hown7 hg7 hat7 hlt7
  refine h g2 cap2 w7 hown7 ((Fro.below hb).trans (Fro.grown hg7 (fun j hj => hj))) ?_ ?_ hlt7
  · rcases hat7 with q | q
    · exact .inl q
    · simp at q
      exact .inr (by omega)
  · exact (row_base hown7 g2 rfl).1
end Go.Proofs.Ythlkbijpphdblaa
