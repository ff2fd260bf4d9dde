/- The law's own copy of a tree. -/
import Derived.Test.YthlkbijpphdblaaK1
import Derived.Deep.RegionHeldLaw
namespace Go.Proofs.Ythlkbijpphdblaa
open Go.RowKit
set_option linter.unusedVariables false

theorem NdV.bel {O : Nat → Prop} {w w' : World} {n : Nd} {cs : List Value} (h : NdV O w n cs) (hb : Below w.heap.size w w') : NdV O w' n cs := h.fro (fun _ hg => hg) hb.size (fun g _ hgs => hb.block g hgs)
theorem NdV.all {O : Nat → Prop} {w : World} {n : Nd} {cs : List Value} (h : NdV O w n cs) : NdV (fun _ => True) w n cs := h.fro (fun _ _ => trivial) (Nat.le_refl _) (fun _ _ _ => rfl)
/-- Where nodes of a copy that grows may lie. -/
abbrev Cw (w wr : World) (C : Nat) (v : Value) : Nat → Prop := fun g => w.heap.size + 1 < g ∧ g < wr.heap.size ∧ g ≠ C ∧ v.ownBlock ≠ some g
structure CpR (w : World) (C : Nat) (k : Int) (s : List Rg) (a b : Int) (vs : Value) (N : Array Value) (v : Value) (wr : World) (ns : List Nd) (css : List (List Value)) : Prop where
  row : wr.ownsRow (w.heap.size + 2) 38 5 v ns.length css.flatten
  nds : RdsV (Cw w wr C v) wr ns css
  sl : SlR (Cw w wr C v) wr vs s
  bel : Below w.heap.size w wr
  box : wr.heap[w.heap.size]? = some (.cells N 27 (0, 0))
  res : wr.heap[w.heap.size + 1]? = some (.cells zN 38 (0, 0))
  cop : wr.heap[C]? = some (.cells #[.int .i64 k, vs, .int .i64 a, .int .i64 b, v] 38 (0, 0))
  cge : w.heap.size + 1 < C
  far : v.ownBlock ≠ some C
theorem CpR.start1 {w W w5 : World} {k a b : Int} {s : List Rg} {vs : Value} {N : Array Value} (hWs : W.heap.size = w.heap.size + 2) (hbW : Below w.heap.size w W) (x1 : W.heap[w.heap.size]? = some (.cells N 27 (0, 0))) (x2 : W.heap[w.heap.size + 1]? = some (.cells zN 38 (0, 0))) (hc : Below W.heap.size W w5) (o5 : Own .i64 77 w5 W.heap.size vs s) :
    CpR w w5.heap.size k s a b vs N (.slice none 0 0) (w5.alloc (.cells #[.int .i64 k, vs, .int .i64 a, .int .i64 b, .slice none 0 0] 38)) [] [] := by
  have hb : Below W.heap.size W (w5.alloc (.cells #[.int .i64 k, vs, .int .i64 a, .int .i64 b, .slice none 0 0] 38)) := hc.alloc hc.size _
  have hz := hc.size
  have hx := nw_heap w5 (.cells #[.int .i64 k, vs, .int .i64 a, .int .i64 b, .slice none 0 0] 38)
  have hsz := sza w5 (.cells #[.int .i64 k, vs, .int .i64 a, .int .i64 b, .slice none 0 0] 38)
  refine ⟨⟨rfl, .inl ⟨rfl, rfl⟩⟩, RdsV.nil _ _, ?_, hbW.trans (hb.mono (by omega)), (hb.block _ (by omega)).trans x1, (hb.block _ (by omega)).trans x2, hx, by omega, by simp [Value.ownBlock]⟩
  exact (own_slr (O := fun g => W.heap.size ≤ g ∧ g < w5.heap.size) o5 (fun g h1 h2 => ⟨h1, h2⟩)).fro (fun g hg => ⟨by omega, by omega, by omega, by simp [Value.ownBlock]⟩) (by omega) (fun g hg hgs => ((Below.refl w5.heap.size w5).alloc (Nat.le_refl _) _).block g hgs)
theorem CpR.start2 {w W w5 : World} {k a b : Int} {s : List Rg} {vs : Value} {N : Array Value} (hWs : W.heap.size = w.heap.size + 2) (hbW : Below w.heap.size w W) (x1 : W.heap[w.heap.size]? = some (.cells N 27 (0, 0))) (x2 : W.heap[w.heap.size + 1]? = some (.cells zN 38 (0, 0))) (hc : Below W.heap.size W w5) (o5 : Own .i64 77 w5 (W.heap.size + 1) vs s) (h6 : w5.heap[W.heap.size]? = some (.cells zN 38 (0, 0))) :
    CpR w W.heap.size k s a b vs N (.slice none 0 0) (put5 w5 W.heap.size (.int .i64 k) vs (.int .i64 a) (.int .i64 b) (.slice none 0 0)) [] [] := by
  have hb : Below W.heap.size W (put5 w5 W.heap.size (.int .i64 k) vs (.int .i64 a) (.int .i64 b) (.slice none 0 0)) := hc.trans (put5_bel w5 W.heap.size _ _ _ _ _)
  have hz := hc.size
  have hx := put5_at h6 (.int .i64 k) vs (.int .i64 a) (.int .i64 b) (.slice none 0 0)
  have hsz := put5_size w5 W.heap.size (.int .i64 k) vs (.int .i64 a) (.int .i64 b) (.slice none 0 0)
  have hbk := put5_blk w5 W.heap.size (.int .i64 k) vs (.int .i64 a) (.int .i64 b) (.slice none 0 0)
  refine ⟨⟨rfl, .inl ⟨rfl, rfl⟩⟩, RdsV.nil _ _, ?_, hbW.trans (hb.mono (by omega)), (hb.block _ (by omega)).trans x1, (hb.block _ (by omega)).trans x2, hx, by omega, by simp [Value.ownBlock]⟩
  exact (own_slr (O := fun g => W.heap.size + 1 ≤ g ∧ g < w5.heap.size) o5 (fun g h1 h2 => ⟨h1, h2⟩)).fro (fun g hg => ⟨by omega, by omega, by omega, by simp [Value.ownBlock]⟩) (by omega) (fun g hg hgs => hbk g (by omega))
theorem CpR.on {w wr w' : World} {C : Nat} {k a b : Int} {s : List Rg} {vs v : Value} {N : Array Value} {ns : List Nd} {css : List (List Value)} (h : CpR w C k s a b vs N v wr ns css) (hb : Below wr.heap.size wr w') : CpR w C k s a b vs N v w' ns css := by
  have hO : ∀ g, Cw w wr C v g → Cw w w' C v g := fun g hg => ⟨hg.1, by have := hb.size; have := hg.2.1; omega, hg.2.2.1, hg.2.2.2⟩
  have hK : ∀ g, Cw w wr C v g → g < wr.heap.size → w'.heap[g]? = wr.heap[g]? := fun g hg hgs => hb.block g hgs
  exact ⟨row_below h.row hb, h.nds.fro hO hb.size hK, h.sl.fro hO hb.size hK, h.bel.trans (hb.mono h.bel.size), (hb.block _ (lt_of h.box)).trans h.box, (hb.block _ (lt_of h.res)).trans h.res, (hb.block _ (lt_of h.cop)).trans h.cop, h.cge, h.far⟩
theorem CpR.snoc {w wr w5 w7 : World} {C g cap : Nat} {k a b : Int} {s : List Rg} {vs v : Value} {N : Array Value} {ns : List Nd} {css : List (List Value)} {x : Nd} {cs : List Value} (h : CpR w C k s a b vs N v wr ns css) (hb : Below wr.heap.size wr w5) (hn : RdV (Nw wr w5) w5 x cs)
    (hr : w7.ownsRow (w.heap.size + 2) 38 5 (.slice (some ⟨g, 0, none⟩) (ns.length + 1) cap) (ns.length + 1) (css.flatten ++ cs)) (hf : Fro (fun j => v.ownBlock = some j) w5 w7) (hg : v.ownBlock = some g ∨ w5.heap.size ≤ g) (hgs : g < w7.heap.size) :
    CpR w C k s a b vs N (.slice (some ⟨g, 0, none⟩) (ns.length + 1) cap) (w7.setCell ⟨C, 4, none⟩ (.slice (some ⟨g, 0, none⟩) (ns.length + 1) cap)) (ns ++ [x]) (css ++ [cs]) := by
  have h5 := h.on hb
  have hCw := lt_of h.cop
  have hC5 := lt_of h5.cop
  have hz5 := hb.size
  have hz7 := hf.size
  have hvw : ∀ j, v.ownBlock = some j → w.heap.size + 2 ≤ j ∧ j < wr.heap.size := fun j hj => row_base h.row j hj
  have hgC : g ≠ C := by
    rintro rfl
    rcases hg with q | q
    · exact h.far q
    · omega
  have hC7 : w7.heap[C]? = _ := hf.at h5.cop h.far
  have hset : ∀ j, j ≠ C → (w7.setCell ⟨C, 4, none⟩ (.slice (some ⟨g, 0, none⟩) (ns.length + 1) cap)).heap[j]? = w7.heap[j]? := fun j hj => Below.heap_setCell _ ⟨C, 4, none⟩ _ j hj
  have hss : (w7.setCell ⟨C, 4, none⟩ (.slice (some ⟨g, 0, none⟩) (ns.length + 1) cap)).heap.size = w7.heap.size := by simp [World.setCell]
  have hO : ∀ q, Cw w w5 C v q → Cw w (w7.setCell ⟨C, 4, none⟩ (.slice (some ⟨g, 0, none⟩) (ns.length + 1) cap)) C (.slice (some ⟨g, 0, none⟩) (ns.length + 1) cap) q := fun q hq => ⟨hq.1, by have := hq.2.1; omega, hq.2.2.1, fun e => by
    have e' : g = q := by simpa [Value.ownBlock] using e
    subst e'
    rcases hg with c | c
    · exact hq.2.2.2 c
    · have := hq.2.1; omega⟩
  have hK : ∀ q, Cw w w5 C v q → q < w5.heap.size → (w7.setCell ⟨C, 4, none⟩ (.slice (some ⟨g, 0, none⟩) (ns.length + 1) cap)).heap[q]? = w5.heap[q]? := fun q hq hqs => (hset q hq.2.2.1).trans (hf.block q hqs (fun e => hq.2.2.2 e))
  have hO2 : ∀ q, Nw wr w5 q → Cw w w5 C v q := fun q hq => ⟨by have := h.cge; have := hq.1; omega, hq.2, by have := hq.1; omega, fun e => by have := (hvw q e).2; have := hq.1; omega⟩
  have hb7 : Below (w.heap.size + 2) w5 w7 := hf.toBelow (by have := h.cge; omega) (fun i hi q => by have := (hvw i q).1; omega)
  have hb8 : Below (w.heap.size + 2) w5 (w7.setCell ⟨C, 4, none⟩ (.slice (some ⟨g, 0, none⟩) (ns.length + 1) cap)) := hb7.setCell (p := ⟨C, 4, none⟩) (by have := h.cge; show w.heap.size + 2 ≤ C; omega) _
  refine ⟨?_, ?_, h5.sl.fro hO (by omega) hK, h5.bel.trans (hb8.mono (by omega)), (hb8.block _ (by omega)).trans h5.box, (hb8.block _ (by omega)).trans h5.res, ?_, h.cge, ?_⟩
  · rw [List.length_append, List.flatten_append]
    have := row_fro hr (O := fun j => j = C) ((Fro.refl (fun j => j = C) w7).set (.inl rfl) (.slice (some ⟨g, 0, none⟩) (ns.length + 1) cap) (i := 4)) (fun j hj => by
      have e' : g = j := by simpa [Value.ownBlock] using hj
      omega)
    simpa using this
  · exact RdsV.snoc (h5.nds.fro hO (by omega) hK) (hn.fro (fun q hq => hO q (hO2 q hq)) (by omega) (fun q hq hqs => hK q (hO2 q hq) hqs))
  · have := bset (i := 4) hC7 (.slice (some ⟨g, 0, none⟩) (ns.length + 1) cap)
    simpa using this
  · intro e
    have e' : g = C := by simpa [Value.ownBlock] using e
    exact hgC e'
theorem CpR.fin {w wr : World} {C : Nat} {k a b : Int} {s : List Rg} {vs v : Value} {N : Array Value} {ns : List Nd} {css : List (List Value)} (h : CpR w C k s a b vs N v wr ns css) (e : Value) (he : e = .agg #[.int .i64 k, vs, .int .i64 a, .int .i64 b, v]) : OnQ (.nd k s a b ns) w (.returned e) (put5 wr (w.heap.size + 1) (.int .i64 k) vs (.int .i64 a) (.int .i64 b) v) := by
  subst he
  have hr := lt_of h.res
  have hbk := put5_blk wr (w.heap.size + 1) (.int .i64 k) vs (.int .i64 a) (.int .i64 b) v
  have hsz := put5_size wr (w.heap.size + 1) (.int .i64 k) vs (.int .i64 a) (.int .i64 b) v
  have hO : ∀ g, Cw w wr C v g → Nw w (put5 wr (w.heap.size + 1) (.int .i64 k) vs (.int .i64 a) (.int .i64 b) v) g := fun g hg => ⟨by have := hg.1; omega, by have := hg.2.1; omega⟩
  have hK : ∀ g, Cw w wr C v g → g < wr.heap.size → (put5 wr (w.heap.size + 1) (.int .i64 k) vs (.int .i64 a) (.int .i64 b) v).heap[g]? = wr.heap[g]? := fun g hg _ => hbk g (by have := hg.1; omega)
  have hs := h.sl.fro hO (by omega) hK
  have hns := h.nds.fro hO (by omega) hK
  have hrow := h.row
  have hcells : ∀ g n cap, v = .slice (some ⟨g, 0, none⟩) n cap → w.heap.size + 2 ≤ g → n = ns.length → ∀ j r u, (css.getD j [])[r]? = some u → (put5 wr (w.heap.size + 1) (.int .i64 k) vs (.int .i64 a) (.int .i64 b) v).cell? ⟨g, 0 + j * 5 + r, none⟩ = some u := fun g n cap hv hg hn j r u hu => by
    subst hn
    rw [hv] at hrow
    have := row_cellsR h.nds hrow j r u hu
    exact cell_of (hbk g (by omega)) this
  have hbel : Below w.heap.size w (put5 wr (w.heap.size + 1) (.int .i64 k) vs (.int .i64 a) (.int .i64 b) v) := h.bel.trans ((put5_bel wr (w.heap.size + 1) _ _ _ _ _).mono (by omega))
  obtain ⟨sa, sc, rfl, _⟩ := h.sl
  rcases hrow.2 with ⟨e1, e2⟩ | ⟨g, cap, cur, e1, hg, hh, hcap, _⟩
  · subst e1
    have e0 : ns = [] := List.length_eq_zero_iff.1 e2
    subst e0
    exact ⟨k, sa, _, sc, a, b, none, 0, 0, rfl, .mk k a b s [] _ none 0 css hs hns.len (Nat.le_refl _) (.inl rfl) hns.nd, hbel⟩
  · have hgs := lt_of hh
    have hc := hcells g _ cap e1 hg rfl
    subst e1
    exact ⟨k, sa, _, sc, a, b, _, _, _, rfl, .mk k a b s ns _ _ cap css hs hns.len hcap (.inr ⟨g, 0, rfl, ⟨by omega, by omega⟩, by omega, hc⟩) hns.nd, hbel⟩
end Go.Proofs.Ythlkbijpphdblaa
