/- Trees of nodes in memory. -/
import Derived.Test.YthlkbijpphdblaaB4
namespace Go.Proofs.Ythlkbijpphdblaa
open Go.RowKit
set_option linter.unusedVariables false

inductive Nd where
  | nd (kind : Int) (set : List Rg) (mn mx : Int) (kids : List Nd)
/-- A slice of ranges whose block is one of some. -/
def SlO (O : Nat → Prop) (w : World) (v : Value) (s : List Rg) : Prop := ∃ a cap, v = .slice a s.length cap ∧ s.length ≤ cap ∧ (s = [] ∨ ∃ g off, a = some ⟨g, off, none⟩ ∧ O g ∧ g < w.heap.size ∧ ∀ (j : Nat) (hj : j < s.length), w.cell? ⟨g, off + j * 2, none⟩ = some (.int .i32 s[j].1) ∧ w.cell? ⟨g, off + j * 2 + 1, none⟩ = some (.int .i32 s[j].2))
/-- A node's five cells; its kids' lie in blocks that are some. -/
inductive NdV (O : Nat → Prop) (w : World) : Nd → List Value → Prop
  | mk (k a b : Int) (s : List Rg) (ks : List Nd) (vs : Value) (ad : Option Addr) (cap : Nat) (css : List (List Value)) (hs : SlO O w vs s) (hl : css.length = ks.length) (hc : ks.length ≤ cap)
      (hk : ks = [] ∨ ∃ g off, ad = some ⟨g, off, none⟩ ∧ O g ∧ g < w.heap.size ∧ (∃ arr, w.heap[g]? = some (.cells arr 27 (0, 0))) ∧ ∀ j r u, (css.getD j [])[r]? = some u → w.cell? ⟨g, off + j * 5 + r, none⟩ = some u)
      (hn : ∀ j (hj : j < ks.length), NdV O w ks[j] (css.getD j [])) :
      NdV O w (.nd k s a b ks) [.int .i64 k, vs, .int .i64 a, .int .i64 b, .slice ad ks.length cap]
theorem NdV.len {O : Nat → Prop} {w : World} {n : Nd} {cs : List Value} (h : NdV O w n cs) : cs.length = 5 := by cases h; rfl
theorem cell_of {w w' : World} {g i : Nat} {v : Value} (hb : w'.heap[g]? = w.heap[g]?) (h : w.cell? ⟨g, i, none⟩ = some v) : w'.cell? ⟨g, i, none⟩ = some v := by
  simp only [World.cell?] at h ⊢
  rw [hb]
  exact h
theorem SlO.fro {O O' : Nat → Prop} {w w' : World} {v : Value} {s : List Rg} (h : SlO O w v s) (hO : ∀ g, O g → O' g) (hz : w.heap.size ≤ w'.heap.size) (hb : ∀ g, O g → g < w.heap.size → w'.heap[g]? = w.heap[g]?) : SlO O' w' v s := by
  obtain ⟨a, cap, rfl, hc, h⟩ := h
  refine ⟨a, cap, rfl, hc, ?_⟩
  rcases h with h | ⟨g, off, rfl, hg, hgs, h⟩
  · exact .inl h
  · exact .inr ⟨g, off, rfl, hO g hg, by omega, fun j hj => ⟨cell_of (hb g hg hgs) (h j hj).1, cell_of (hb g hg hgs) (h j hj).2⟩⟩
theorem SlO.sl {O : Nat → Prop} {w : World} {v : Value} {s : List Rg} (h : SlO O w v s) : Sl .i32 w v s := by
  obtain ⟨a, cap, rfl, hc, h⟩ := h
  refine ⟨a, cap, rfl, hc, ?_⟩
  rcases h with h | ⟨g, off, rfl, hg, hgs, h⟩
  · exact .inl h
  · exact .inr ⟨g, off, rfl, hgs, h⟩
theorem own_slo {O : Nat → Prop} {w : World} {base : Nat} {v : Value} {s : List Rg} (h : Own .i32 64 w base v s) (hO : ∀ g, base ≤ g → g < w.heap.size → O g) : SlO O w v s := by
  by_cases hs : s = []
  · subst hs
    obtain ⟨a, cap, rfl, hc, _⟩ := h.sl
    exact ⟨a, cap, rfl, hc, .inl rfl⟩
  · obtain ⟨g, cap, cur, rfl, hg, hh, h1, h2, h3, h4⟩ := own_block h hs
    refine ⟨_, cap, rfl, h2, .inr ⟨g, 0, rfl, hO g hg (lt_of hh), lt_of hh, fun j hj => ?_⟩⟩
    have := own_cells h j hj
    rw [Nat.zero_add]
    exact ⟨this.1, this.2.1⟩
theorem NdV.fro {O O' : Nat → Prop} {w w' : World} (hO : ∀ g, O g → O' g) (hz : w.heap.size ≤ w'.heap.size) (hb : ∀ g, O g → g < w.heap.size → w'.heap[g]? = w.heap[g]?) {n : Nd} {cs : List Value} (h : NdV O w n cs) : NdV O' w' n cs := by
  induction h with
  | mk k a b s ks vs ad cap css hs hl hc hk hn ih =>
    refine .mk k a b s ks vs ad cap css (hs.fro hO hz hb) hl hc ?_ ih
    rcases hk with h | ⟨g, off, rfl, hg, hgs, ⟨arr, harr⟩, h⟩
    · exact .inl h
    · exact .inr ⟨g, off, rfl, hO g hg, by omega, ⟨arr, (hb g hg hgs).trans harr⟩, fun j r u hu => cell_of (hb g hg hgs) (h j r u hu)⟩
/-- Nodes that are new since. -/
abbrev Nw (w w' : World) : Nat → Prop := fun g => w.heap.size ≤ g ∧ g < w'.heap.size
def MvN (P : Nat) (w : World) (vb : Value) (l : Bs) (o : Nat) (r : R Nd) (e : Ending) (w' : World) : Prop := match r with
  | .ok n k => ∃ (q0 : Int) (s0 : Option Addr) (s1 s2 : Nat) (q2 q3 : Int) (t0 : Option Addr) (t1 t2 : Nat), e = .returned (.agg #[.int .i64 q0, .slice s0 s1 s2, .int .i64 q2, .int .i64 q3, .slice t0 t1 t2]) ∧ NdV (Nw w w') w' n [.int .i64 q0, .slice s0 s1 s2, .int .i64 q2, .int .i64 q3, .slice t0 t1 t2] ∧ In P w' vb l k o ∧ Fro (fun j => j = P) w w'
  | .bad p er => e = .panicked (flt p er) ∧ Fro (fun j => j = P) w w'
theorem mn_bad {P : Nat} {w w' : World} {vb : Value} {l : Bs} {o : Nat} {X : R Nd} {p er : Int} (hx : .bad p er = X) (hf : Fro (fun j => j = P) w w') : MvN P w vb l o X (.panicked (flt p er)) w' := by
  subst hx
  exact ⟨rfl, hf⟩
theorem mn_ok {P : Nat} {w w' : World} {vb : Value} {l : Bs} {o : Nat} {X : R Nd} {n : Nd} {k : Nat} {c0 c1 c2 c3 c4 : Value} (hx : .ok n k = X) (hn : NdV (Nw w w') w' n [c0, c1, c2, c3, c4]) (hi : In P w' vb l k o) (hf : Fro (fun j => j = P) w w') : MvN P w vb l o X (.returned (.agg #[c0, c1, c2, c3, c4])) w' := by
  subst hx
  have hn' := hn
  generalize hcs : [c0, c1, c2, c3, c4] = cs at hn
  cases hn with
  | mk k a b s ks vs ad cap css hs hl hc hk hn =>
    obtain ⟨sa, sc, rfl, _⟩ := hs
    simp only [List.cons.injEq, and_true] at hcs
    obtain ⟨rfl, rfl, rfl, rfl, rfl⟩ := hcs
    exact ⟨_, _, _, _, _, _, _, _, _, rfl, hn', hi, hf⟩
/-- Five cells are written. -/
abbrev put5 (w : World) (X : Nat) (c0 c1 c2 c3 c4 : Value) : World := ((((w.setCell ⟨X, 0, none⟩ c0).setCell ⟨X, 1, none⟩ c1).setCell ⟨X, 2, none⟩ c2).setCell ⟨X, 3, none⟩ c3).setCell ⟨X, 4, none⟩ c4
theorem put5_at {w : World} {X : Nat} {t : TypeId} {a0 a1 a2 a3 a4 : Value} (h : w.heap[X]? = some (.cells #[a0, a1, a2, a3, a4] t (0, 0))) (c0 c1 c2 c3 c4 : Value) : (put5 w X c0 c1 c2 c3 c4).heap[X]? = some (.cells #[c0, c1, c2, c3, c4] t (0, 0)) := by
  have h0 := bset (i := 0) h c0
  have h1 := bset (i := 1) h0 c1
  have h2 := bset (i := 2) h1 c2
  have h3 := bset (i := 3) h2 c3
  have h4 := bset (i := 4) h3 c4
  simpa using h4
theorem put5_fro {O : Nat → Prop} {w W : World} {X : Nat} (h : Fro O w W) (hX : O X ∨ w.heap.size ≤ X) (c0 c1 c2 c3 c4 : Value) : Fro O w (put5 W X c0 c1 c2 c3 c4) :=
  ((((h.set hX c0).set hX c1).set hX c2).set hX c3).set hX c4
theorem cells5 {U : World} {X : Nat} {a b c d e : Value} {t : TypeId} (hx : U.heap[X]? = some (.cells #[a, b, c, d, e] t (0, 0))) : (U.cell? ⟨X, 0, none⟩ = some a ∧ U.cell? ⟨X, 1, none⟩ = some b ∧ U.cell? ⟨X, 2, none⟩ = some c ∧ U.cell? ⟨X, 3, none⟩ = some d ∧ U.cell? ⟨X, 4, none⟩ = some e) ∧ U.frozen? ⟨X, 0, none⟩ = false ∧ U.frozen? ⟨X, 1, none⟩ = false ∧ U.frozen? ⟨X, 2, none⟩ = false ∧ U.frozen? ⟨X, 3, none⟩ = false ∧ U.frozen? ⟨X, 4, none⟩ = false := by
  refine ⟨⟨?_, ?_, ?_, ?_, ?_⟩, ?_, ?_, ?_, ?_, ?_⟩ <;> simp [World.cell?, World.frozen?, hx]
theorem put5_blk (w : World) (X : Nat) (c0 c1 c2 c3 c4 : Value) (g : Nat) (hg : g ≠ X) : (put5 w X c0 c1 c2 c3 c4).heap[g]? = w.heap[g]? := by
  have e : ∀ (W : World) (i : Nat) (c : Value), (W.setCell ⟨X, i, none⟩ c).heap[g]? = W.heap[g]? := fun W i c => Below.heap_setCell _ _ _ _ hg
  unfold put5
  rw [e, e, e, e, e]
theorem put5_size (w : World) (X : Nat) (c0 c1 c2 c3 c4 : Value) : (put5 w X c0 c1 c2 c3 c4).heap.size = w.heap.size := by simp [World.setCell]
end Go.Proofs.Ythlkbijpphdblaa
