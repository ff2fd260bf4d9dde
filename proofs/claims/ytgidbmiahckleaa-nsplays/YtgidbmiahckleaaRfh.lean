/- What the second telling's Open keeps. -/
import Derived.Test.YtgidbmiahckleaaRf9
import Derived.Deep.RegionHeld3
namespace Go.Proofs.Ytgidbmiahckleaa
open Go.RowKit
set_option linter.unusedVariables false

structure O1 (w : World) (k pl : Int) (nm tx : ByteArray) (sv : Value) (ats : Ats) (i : Nat) (lb : Bs) (v : Value) (wr : World) : Prop where
  e : wr.heap[w.heap.size]? = some (.cells #[.int .i64 k, .int .i64 pl, .string nm, .string tx, sv] 51 (0, 0))
  z : wr.heap[w.heap.size + 1]? = some (.cells #[.string ⟨#[]⟩, .string ⟨#[]⟩, .slice none 0 0, .int .i64 0] 46 (0, 0))
  row : wr.ownsRow (w.heap.size + 1 + 1) 88 2 v lb.length (lb.flatMap bc)
  bel : Below w.heap.size w wr
  eq : rgo1 ats [] = rgo1 (ats.drop i) lb
  len : lb.length ≤ i
/-- A row of bindings whose block is in B. -/
def RowBO (B : Nat → Prop) (w : World) (v : Value) (b : Bs) : Prop := RowB w v b ∧ (b ≠ [] → ∀ k, v.ownBlock = some k → B k)
def RowLO (B : Nat → Prop) (w : World) (v : Value) (L : List Bs) : Prop := ∃ a cap, v = .slice a L.length cap ∧ L.length ≤ cap ∧ cap ≤ maxLen ∧ (L = [] ∨ ∃ g o, a = some ⟨g, o, none⟩ ∧ g < w.heap.size ∧ B g ∧ ∀ i (hi : i < L.length), ∃ u, w.cell? ⟨g, o + i, none⟩ = some u ∧ RowBO B w u (L[i]'hi))
/-- The second telling's scope; what it is made of lies in B. -/
structure RSO (B : Nat → Prop) (w : World) (Q : Nat) (L : List Bs) : Prop where
  bd : ∀ k, B k → k ≠ Q ∧ k < w.heap.size
  ex : ∃ v, w.heap[Q]? = some (.cells #[v] 30 (0, 0)) ∧ RowLO B w v L
theorem RowBO.mono {B B' : Nat → Prop} {w : World} {v : Value} {b : Bs} (h : RowBO B w v b) (hB : ∀ k, B k → B' k) : RowBO B' w v b := ⟨h.1, fun hn k hk => hB k (h.2 hn k hk)⟩
theorem RowBO.fro {B O : Nat → Prop} {w w' : World} {v : Value} {b : Bs} (h : RowBO B w v b) (hf : Fro O w w') (hd : ∀ k, B k → ¬ O k) : RowBO B w' v b := by
  refine ⟨?_, h.2⟩
  by_cases hb : b = []
  · obtain ⟨a, cap, rfl, h1, h2, _⟩ := h.1
    exact ⟨a, cap, rfl, h1, h2, .inl hb⟩
  · exact h.1.fro hf (fun k hk => hd k (h.2 hb k hk))
theorem RowLO.row {B : Nat → Prop} {w : World} {v : Value} {L : List Bs} (h : RowLO B w v L) : RowL w v L := by
  obtain ⟨a, cap, rfl, h1, h2, h3⟩ := h
  refine ⟨a, cap, rfl, h1, h2, ?_⟩
  rcases h3 with h3 | ⟨g, o, rfl, h4, _, h5⟩
  · exact .inl h3
  · refine .inr ⟨g, o, rfl, h4, fun i hi => ?_⟩
    obtain ⟨u, q0, q1⟩ := h5 i hi
    exact ⟨u, q0, q1.1⟩
theorem RowLO.fro {B O : Nat → Prop} {w w' : World} {v : Value} {L : List Bs} (h : RowLO B w v L) (hf : Fro O w w') (hd : ∀ k, B k → ¬ O k) : RowLO B w' v L := by
  obtain ⟨a, cap, rfl, h1, h2, h3⟩ := h
  refine ⟨a, cap, rfl, h1, h2, ?_⟩
  rcases h3 with h3 | ⟨g, o, rfl, h4, hb, h5⟩
  · exact .inl h3
  · refine .inr ⟨g, o, rfl, Nat.lt_of_lt_of_le h4 hf.size, hb, fun i hi => ?_⟩
    obtain ⟨u, q0, q1⟩ := h5 i hi
    exact ⟨u, (hf.cell h4 (hd g hb)).trans q0, q1.fro hf hd⟩
theorem RSO.rs {B : Nat → Prop} {w : World} {Q : Nat} {L : List Bs} (h : RSO B w Q L) : RS w Q L := by
  obtain ⟨v, h1, h2⟩ := h.ex
  exact ⟨v, h1, h2.row⟩
theorem RSO.fro {B O : Nat → Prop} {w w' : World} {Q : Nat} {L : List Bs} (h : RSO B w Q L) (hf : Fro O w w') (hQ : ¬ O Q) (hd : ∀ k, B k → ¬ O k) : RSO B w' Q L := by
  obtain ⟨v, h1, h2⟩ := h.ex
  exact ⟨fun k hk => ⟨(h.bd k hk).1, Nat.lt_of_lt_of_le (h.bd k hk).2 hf.size⟩, v, (hf.block Q (lt_of h1) hQ).trans h1, h2.fro hf hd⟩
theorem RSO.below {B : Nat → Prop} {w w' : World} {Q : Nat} {L : List Bs} (h : RSO B w Q L) (hb : Below w.heap.size w w') : RSO B w' Q L := h.fro (Fro.below (O := fun _ => False) hb) (fun q => q) (fun _ _ q => q)
theorem rowLO_vs {B : Nat → Prop} {w : World} {v : Value} {L : List Bs} (h : RowLO B w v L) : ∃ (a : Option Addr) (cap : Nat) (vs : List Value), v = .slice a L.length cap ∧ vs.length = L.length ∧ (∀ i (hi : i < L.length), ∃ u, vs[i]? = some u ∧ RowBO B w u (L[i]'hi)) ∧ (∀ u ∈ vs, u.oneCell' = true) ∧ (L.length = 0 ∨ ∃ ad : Addr, a = some ad ∧ ad.block < w.heap.size ∧ ∀ j u, vs[j]? = some u → w.cell? (ad.add j) = some u) := by
  obtain ⟨a, cap, rfl, h1, h2, h3⟩ := h
  rcases h3 with rfl | ⟨g, o, rfl, hg, _, hc⟩
  · exact ⟨a, cap, [], rfl, rfl, fun i hi => absurd hi (by simp), fun u hu => by simp at hu, .inl rfl⟩
  · let f : Fin L.length → Value := fun i => Classical.choose (hc i.1 i.2)
    have hf : ∀ i (hi : i < L.length), w.cell? ⟨g, o + i, none⟩ = some (f ⟨i, hi⟩) ∧ RowBO B w (f ⟨i, hi⟩) (L[i]'hi) := fun i hi => Classical.choose_spec (hc i hi)
    have hget : ∀ i (hi : i < L.length), (List.ofFn f)[i]? = some (f ⟨i, hi⟩) := fun i hi => by
      rw [List.getElem?_eq_getElem (by simpa using hi), List.getElem_ofFn]
    refine ⟨_, cap, List.ofFn f, rfl, by simp, fun i hi => ⟨_, hget i hi, (hf i hi).2⟩, fun u hu => ?_, .inr ⟨_, rfl, hg, fun j u hu => ?_⟩⟩
    · obtain ⟨i, hi, rfl⟩ := List.mem_iff_getElem.1 hu
      rw [List.getElem_ofFn]
      exact (hf i (by simpa using hi)).2.1.one
    · have hj : j < L.length := by
        have := (List.getElem?_eq_some_iff.1 hu).1
        simpa using this
      rw [hget j hj] at hu
      have e : f ⟨j, hj⟩ = u := Option.some.inj hu
      rw [addr_add, ← e]
      exact (hf j hj).1
theorem row8O {B : Nat → Prop} {w : World} {base : Nat} {v : Value} {b : Bs} (h : w.ownsRow base 88 2 v b.length (b.flatMap bc)) (hB : ∀ k, base ≤ k → k < w.heap.size → B k) : RowBO B w v b := ⟨row8 h, fun _ k hk => hB k (row_base h k hk).1 (row_base h k hk).2⟩
theorem rows_mkO {B : Nat → Prop} {w : World} {base : Nat} {v u : Value} {vs : List Value} {L : List Bs} {lb : Bs} (hown : w.ownsRow base 64 1 v (L.length + 1) (vs ++ [u])) (hB : ∀ k, base ≤ k → k < w.heap.size → B k) (hl : vs.length = L.length) (hvr : ∀ i (hi : i < L.length), ∃ x, vs[i]? = some x ∧ RowBO B w x (L[i]'hi)) (hu : RowBO B w u lb) : RowLO B w v (L ++ [lb]) := by
  rcases hown.2 with ⟨rfl, h0⟩ | ⟨g, cap, cur, rfl, hbg, hg, h1, h2, _⟩
  · omega
  · refine ⟨_, cap, by simp, by simpa using h1, h2, .inr ⟨g, 0, rfl, lt_of hg, hB g hbg (lt_of hg), fun i hi => ?_⟩⟩
    have hx : ∃ x, (vs ++ [u])[i]? = some x ∧ RowBO B w x ((L ++ [lb])[i]'hi) := by
      by_cases h : i < L.length
      · obtain ⟨x, hx, hr⟩ := hvr i h
        refine ⟨x, ?_, ?_⟩
        · rw [List.getElem?_append_left (by omega)]
          exact hx
        · rw [List.getElem_append_left h]
          exact hr
      · have hi' : i = L.length := by simp at hi; omega
        subst hi'
        refine ⟨u, ?_, ?_⟩
        · rw [List.getElem?_append_right (by omega), hl]
          simp
        · rw [List.getElem_append_right (Nat.le_refl _)]
          simp only [Nat.sub_self, List.getElem_cons_zero]
          exact hu
    obtain ⟨x, hx, hr⟩ := hx
    have := hown.cells (g := g) rfl i x hx
    rw [addr_add0] at this
    exact ⟨x, by rw [Nat.zero_add]; exact this, hr⟩
/-- B, and what is new. -/
abbrev Bx (B : Nat → Prop) (w w' : World) : Nat → Prop := fun k => B k ∨ (w.heap.size ≤ k ∧ k < w'.heap.size)
/-- What Open gives. -/
def OpQ (B : Nat → Prop) (w : World) (Q : Nat) (L : List Bs) (nm : ByteArray) (pl : Int) (ats : Ats) (e : Ending) (w' : World) : Prop :=
  match opR L nm pl ats with
  | .error x => e = .returned (.tuple #[.agg #[.string ⟨#[]⟩, .string ⟨#[]⟩, .slice none 0 0, .int .i64 0], .int .i64 x.1, .int .i64 x.2]) ∧ Below w.heap.size w w'
  | .ok x => ∃ rv, e = .returned (.tuple #[.agg #[.string x.1.1, .string x.1.2, rv, .int .i64 pl], .int .i64 0, .int .i64 0]) ∧ RowA w' rv x.2 ∧ RSO (Bx B w w') w' Q (L ++ [colR ats []]) ∧ Fro (fun k => k = Q) w w'
theorem OpQ.bad1 {B : Nat → Prop} {w w' : World} {Q : Nat} {L : List Bs} {nm : ByteArray} {pl p : Int} {ats : Ats} (h : rgo1 ats [] = .error p) (hb : Below w.heap.size w w') : OpQ B w Q L nm pl ats (.returned (.tuple #[.agg #[.string ⟨#[]⟩, .string ⟨#[]⟩, .slice none 0 0, .int .i64 0], .int .i64 p, .int .i64 2])) w' := by
  unfold OpQ opR
  rw [h]
  exact ⟨rfl, hb⟩
theorem set4b {N X : Nat} {w w2 : World} {x y z u : Value} (hb : Below N w w2) (hX : N ≤ X) (h : w2.heap[X]? = some (.cells #[x, y, z, u] 46 (0, 0))) (a b c d : Value) :
    ((((w2.setCell ⟨X, 0, none⟩ a).setCell ⟨X, 1, none⟩ b).setCell ⟨X, 2, none⟩ c).setCell ⟨X, 3, none⟩ d).heap[X]? = some (.cells #[a, b, c, d] 46 (0, 0)) ∧ Below N w ((((w2.setCell ⟨X, 0, none⟩ a).setCell ⟨X, 1, none⟩ b).setCell ⟨X, 2, none⟩ c).setCell ⟨X, 3, none⟩ d) := by
  have h2 := bset (i := 3) (bset (i := 2) (bset (i := 1) (bset (i := 0) h a) b) c) d
  exact ⟨h2, (((hb.setCell (p := ⟨X, 0, none⟩) hX a).setCell (p := ⟨X, 1, none⟩) hX b).setCell (p := ⟨X, 2, none⟩) hX c).setCell (p := ⟨X, 3, none⟩) hX d⟩
theorem O1.more {w w3 w4 w5 : World} {k pl : Int} {nm tx bp av : ByteArray} {sv v v5 : Value} {ats : Ats} {i : Nat} {lb : Bs} {o : Obj} (h : O1 w k pl nm tx sv ats i lb v w3) (hb : Below w3.heap.size w3 w4) (hg : (w4.alloc o).grownBy w5 v.ownBlock)
    (ho : w5.ownsRow (w.heap.size + 1 + 1) 88 2 v5 (lb.length + 1) (lb.flatMap bc ++ bc (bp, av))) (he : rgo1 ats [] = rgo1 (ats.drop (i + 1)) (lb ++ [(bp, av)])) : O1 w k pl nm tx sv ats (i + 1) (lb ++ [(bp, av)]) v5 w5 := by
  have hlt : ∀ b, v.ownBlock = some b → w.heap.size + 1 + 1 ≤ b := fun b q => (row_base h.row b q).1
  have hba : Below w3.heap.size w3 (w4.alloc o) := hb.alloc hb.size _
  have keep : ∀ b x, b < w.heap.size + 1 + 1 → w3.heap[b]? = some x → w5.heap[b]? = some x := fun b x q hx =>
    (hg.block b (Nat.lt_of_lt_of_le (lt_of hx) hba.size) (fun e => by have := hlt b e.symm; omega)).trans ((hba.block b (lt_of hx)).trans hx)
  refine ⟨keep _ _ (by omega) h.e, keep _ _ (by omega) h.z, ?_, ?_, he, ?_⟩
  · rw [List.length_append, List.flatMap_append]
    simpa using ho
  · exact (h.bel.trans (hba.mono h.bel.size)).grown hg (Nat.le_trans h.bel.size hba.size) (fun b q => by have := hlt b q; omega)
  · have := h.len
    rw [List.length_append]
    simp only [List.length_cons, List.length_nil]
    omega
theorem emp64 (wr : World) : (wr.alloc (.cells #[] 64)).ownsRow wr.heap.size 64 1 (.slice (some ⟨wr.heap.size, 0, none⟩) 0 0) 0 [] := ⟨rfl, .inr ⟨wr.heap.size, 0, #[], rfl, Nat.le_refl _, nw_heap wr _, Nat.le_refl _, Nat.zero_le _, rfl, rfl⟩⟩
theorem src_below {w w' : World} {n : Nat} {a : Option Addr} {vs : List Value} (h : n = 0 ∨ ∃ ad : Addr, a = some ad ∧ ad.block < w.heap.size ∧ ∀ j u, vs[j]? = some u → w.cell? (ad.add j) = some u) (hb : Below w.heap.size w w') : n = 0 ∨ ∃ ad : Addr, a = some ad ∧ ∀ j u, vs[j]? = some u → w'.cell? (ad.add j) = some u := by
  rcases h with h | ⟨ad, h1, h2, h3⟩
  · exact .inl h
  · refine .inr ⟨ad, h1, fun j u hu => (hb.cell ?_).trans (h3 j u hu)⟩
    have : (ad.add j).block = ad.block := by unfold Addr.add; split <;> rfl
    rw [this]
    exact h2
theorem bl_app64 {wr w1 : World} (h : (wr.alloc (.cells #[] 64)).grownBy w1 (some wr.heap.size)) : Below wr.heap.size wr w1 :=
  ((Below.refl wr.heap.size wr).alloc (Nat.le_refl _) _).grown h (by simp) (fun b hb => by simp at hb; omega)
theorem bl_app64' {wr w1 w2 : World} {v1 : Value} {n : Nat} {xs : List Value} (hb : Below wr.heap.size wr w1) (ho : w1.ownsRow wr.heap.size 64 1 v1 n xs) (h : w1.grownBy w2 v1.ownBlock) : Below wr.heap.size wr w2 :=
  hb.grown h hb.size (fun b hb' => (row_base ho b hb').1)
theorem binR_size (s : ByteArray) : (binR s).1.size ≤ s.size := by
  unfold binR
  split
  · exact Nat.zero_le _
  · split
    · dsimp only; rw [ByteArray.size_extract]; omega
    · exact Nat.zero_le _
/-- Where the second loop stands. -/
structure O2 (wS : World) (T : Nat) (r1 r2 : ByteArray) (pl : Int) (out : List Out) (wr : World) : Prop where
  sz : wS.heap.size = T
  bel : Below wS.heap.size wS wr
  t : ∃ sv, wr.heap[T]? = some (.cells #[.string r1, .string r2, sv, .int .i64 pl] 46 (0, 0)) ∧ wr.ownsRow (T + 1) 90 4 sv out.length (out.flatMap ac)
theorem O2.start {wS : World} {T : Nat} (r1 r2 : ByteArray) (pl : Int) (h : wS.heap.size = T) : O2 wS T r1 r2 pl [] (wS.alloc (.cells #[.string r1, .string r2, .slice none 0 0, .int .i64 pl] 46)) := by
  subst h
  exact ⟨rfl, (Below.refl _ _).alloc (Nat.le_refl _) _, _, nw_heap _ _, rfl, .inl ⟨rfl, rfl⟩⟩
theorem O2.below {wS wr wr' : World} {T : Nat} {r1 r2 : ByteArray} {pl : Int} {out : List Out} (h : O2 wS T r1 r2 pl out wr) (hb : Below wr.heap.size wr wr') : O2 wS T r1 r2 pl out wr' := by
  obtain ⟨h0, h1, sv, h2, h3⟩ := h
  exact ⟨h0, h1.trans (hb.mono h1.size), sv, (hb.block _ (lt_of h2)).trans h2, row_below h3 hb⟩
theorem O2.more {wS W w7 : World} {T : Nat} {r1 r2 : ByteArray} {pl : Int} {out : List Out} (o : Out) {sv sv' : Value} {o6 : Obj} (hT : wS.heap.size = T) (hb : Below wS.heap.size wS W) (ht : W.heap[T]? = some (.cells #[.string r1, .string r2, sv, .int .i64 pl] 46 (0, 0)))
    (hr : W.ownsRow (T + 1) 90 4 sv out.length (out.flatMap ac)) (r7 : w7.ownsRow (T + 1) 90 4 sv' (out.length + 1) (out.flatMap ac ++ ac o)) (g7 : (W.alloc o6).grownBy w7 sv.ownBlock) :
    O2 wS T r1 r2 pl (out ++ [o]) (w7.setCell ⟨T, 2, none⟩ sv') := by
  subst hT
  have ba : Below W.heap.size W (W.alloc o6) := (Below.refl _ _).alloc (Nat.le_refl _) _
  have b6 : Below wS.heap.size wS (W.alloc o6) := hb.alloc hb.size o6
  have rT : sv.ownBlock ≠ some wS.heap.size := fun e => by have := (row_base hr _ e).1; omega
  have b7 : Below wS.heap.size wS w7 := b6.grown g7 b6.size (fun k e => by have := (row_base hr k e).1; omega)
  have t7 := grown_o g7 ((ba.block _ (lt_of ht)).trans ht) rT
  obtain ⟨g8, t8⟩ := setC (i := 2) sv' t7
  refine ⟨rfl, b7.setCell (p := ⟨wS.heap.size, 2, none⟩) (Nat.le_refl _) _, sv', t8, ?_⟩
  have := r7.kept g8 (.inr (fun q => by have := (row_base r7 _ q).1; omega))
  simpa using this
theorem info90 : (Try.prog.info? 90).map (fun i => (i.zero.map fun z => z.cells.size, i.size, i.bytes)) = some (some 4, 4, 56) := by kernel_rfl
theorem info90p : ∃ i z, Try.prog.info? 90 = some i ∧ i.zero = some z ∧ z.cells.size = 4 ∧ i.size = 4 ∧ i.bytes = 56 := by
  have := info90
  cases h : Try.prog.info? 90 with
  | none => rw [h] at this; simp at this
  | some i =>
    rw [h] at this
    simp at this
    obtain ⟨⟨z, h1, h2⟩, h3, h4⟩ := this
    exact ⟨i, z, rfl, h1, h2, h3, h4⟩
theorem ac_get : ∀ (l : List Out) (i c : Nat) (hi : i < l.length), c < 4 → (l.flatMap ac)[4 * i + c]? = (ac (l[i]'hi))[c]?
  | [], i, c, hi, _ => by simp at hi
  | a :: l, 0, c, hi, hc => by
    rw [List.flatMap_cons, List.getElem?_append_left (by simp [ac]; omega)]
    simp
  | a :: l, i + 1, c, hi, hc => by
    rw [List.flatMap_cons, List.getElem?_append_right (by simp [ac]; omega)]
    have e : 4 * (i + 1) + c - 4 = 4 * i + c := by omega
    have e4 : (ac a).length = 4 := rfl
    rw [e4, e, ac_get l i c (by simpa using hi) hc]
    simp
/-- A tag's attributes out of an owned row. -/
theorem rowA_own {w : World} {base n : Nat} {t : TypeId} {v : Value} {l : List Out} (h : w.ownsRow base t 4 v n (l.flatMap ac)) (hn : n = l.length) : RowA w v l := by
  subst hn
  rcases h.2 with ⟨rfl, h0⟩ | ⟨g, cap, cur, rfl, hbg, hg, h1, h2, _⟩
  · exact ⟨none, 0, by rw [h0], by omega, Nat.zero_le _, .inl (List.eq_nil_of_length_eq_zero h0)⟩
  · refine ⟨_, cap, rfl, h1, h2, .inr ⟨g, 0, rfl, lt_of hg, fun i hi => ?_⟩⟩
    have hcell : ∀ c v, c < 4 → (ac (l[i]'hi))[c]? = some v → w.cell? ⟨g, 0 + i * 4 + c, none⟩ = some v := by
      intro c v hc hv
      have := h.cells (g := g) rfl (4 * i + c) v ((ac_get l i c hi hc).trans hv)
      rw [addr_add0] at this
      have e : 0 + i * 4 + c = 4 * i + c := by omega
      rw [e]
      exact this
    exact ⟨hcell 0 _ (by omega) rfl, hcell 1 _ (by omega) rfl, hcell 2 _ (by omega) rfl, hcell 3 _ (by omega) rfl⟩
/-- The new scope's rows. -/
theorem rows_mk {w : World} {base : Nat} {v u : Value} {vs : List Value} {L : List Bs} {lb : Bs} (hown : w.ownsRow base 64 1 v (L.length + 1) (vs ++ [u])) (hl : vs.length = L.length) (hvr : ∀ i (hi : i < L.length), ∃ x, vs[i]? = some x ∧ RowB w x (L[i]'hi)) (hu : RowB w u lb) : RowL w v (L ++ [lb]) := by
  refine rowL_own hown (by simp) (fun i hi => ?_)
  by_cases h : i < L.length
  · obtain ⟨x, hx, hr⟩ := hvr i h
    refine ⟨x, ?_, ?_⟩
    · rw [List.getElem?_append_left (by omega)]
      exact hx
    · rw [List.getElem_append_left h]
      exact hr
  · have hi' : i = L.length := by simp at hi; omega
    subst hi'
    refine ⟨u, ?_, ?_⟩
    · rw [List.getElem?_append_right (by omega), hl]
      simp
    · rw [List.getElem_append_right (Nat.le_refl _)]
      simp only [Nat.sub_self, List.getElem_cons_zero]
      exact hu
/-- A row of strings does not lie where a scope does. -/
theorem RowB.scope {w w' : World} {u : Value} {b : Bs} {Q n c : Nat} {a : Option Addr} (h : RowB w u b) (hf : Fro (fun k => k = Q) w w') (hQ : w.heap[Q]? = some (.cells #[.slice a n c] 30 (0, 0))) : RowB w' u b := by
  obtain ⟨a1, cap, rfl, h1, h2, h3⟩ := h
  refine ⟨a1, cap, rfl, h1, h2, ?_⟩
  rcases h3 with h3 | ⟨g, o, rfl, h4, h5⟩
  · exact .inl h3
  · refine .inr ⟨g, o, rfl, Nat.lt_of_lt_of_le h4 hf.size, fun i hi => ?_⟩
    obtain ⟨q0, q1⟩ := h5 i hi
    have hne : g ≠ Q := by
      rintro rfl
      simp only [World.cell?, hQ] at q0
      by_cases hz : o + i * 2 = 0
      · rw [hz] at q0; simp at q0
      · obtain ⟨m, hm⟩ : ∃ m, o + i * 2 = m + 1 := ⟨o + i * 2 - 1, by omega⟩
        rw [hm] at q0; simp at q0
    exact ⟨(hf.cell h4 hne).trans q0, (hf.cell h4 hne).trans q1⟩
/-- What the last two stores leave. -/
theorem fin5 {wr : World} {Q X : Nat} {x y0 y1 y2 y3 : Value} (hQX : Q ≠ X) (hQ : wr.heap[Q]? = some (.cells #[x] 30 (0, 0))) (hX : wr.heap[X]? = some (.cells #[y0, y1, y2, y3] 46 (0, 0))) (v a b c d : Value) :
    (((((wr.setCell ⟨Q, 0, none⟩ v).setCell ⟨X, 0, none⟩ a).setCell ⟨X, 1, none⟩ b).setCell ⟨X, 2, none⟩ c).setCell ⟨X, 3, none⟩ d).heap[Q]? = some (.cells #[v] 30 (0, 0)) ∧
    (((((wr.setCell ⟨Q, 0, none⟩ v).setCell ⟨X, 0, none⟩ a).setCell ⟨X, 1, none⟩ b).setCell ⟨X, 2, none⟩ c).setCell ⟨X, 3, none⟩ d).heap[X]? = some (.cells #[a, b, c, d] 46 (0, 0)) ∧
    Fro (fun k => k = Q ∨ k = X) wr (((((wr.setCell ⟨Q, 0, none⟩ v).setCell ⟨X, 0, none⟩ a).setCell ⟨X, 1, none⟩ b).setCell ⟨X, 2, none⟩ c).setCell ⟨X, 3, none⟩ d) := by
  obtain ⟨g1, t1⟩ := setC (i := 0) v hQ
  have x1 := grown_at g1 hX hQX
  obtain ⟨g2, x2⟩ := setC (i := 0) a x1
  obtain ⟨g3, x3⟩ := setC (i := 1) b x2
  obtain ⟨g4, x4⟩ := setC (i := 2) c x3
  obtain ⟨g5, x5⟩ := setC (i := 3) d x4
  have hXQ : X ≠ Q := fun e => hQX e.symm
  have hi : ∀ k, some X = some k → k = Q ∨ k = X := fun k e => .inr (Option.some.inj e).symm
  refine ⟨grown_at g5 (grown_at g4 (grown_at g3 (grown_at g2 t1 hXQ) hXQ) hXQ) hXQ, x5, ?_⟩
  exact ((((Fro.grown g1 (fun k e => .inl (Option.some.inj e).symm)).trans (Fro.grown g2 hi)).trans (Fro.grown g3 hi)).trans (Fro.grown g4 hi)).trans (Fro.grown g5 hi)
/-- A name that is there. -/
theorem hasN_snoc (ks : List (ByteArray × ByteArray)) (p q : ByteArray × ByteArray) : hasN (ks ++ [p]) q = (hasN ks q || ((q.1.toList == p.1.toList) && (q.2.toList == p.2.toList))) := by
  unfold hasN
  rw [List.any_append]
  simp
theorem hasN_at {ks : List (ByteArray × ByteArray)} {q : ByteArray × ByteArray} (i : Nat) (hi : i < ks.length) (h : ((q.1.toList == (ks[i]'hi).1.toList) && (q.2.toList == (ks[i]'hi).2.toList)) = true) : hasN ks q = true := by
  unfold hasN
  rw [List.any_eq_true]
  exact ⟨_, List.getElem_mem hi, h⟩
theorem rgo1_ok {ats : Ats} {lb : Bs} (h : rgo1 ats [] = .ok lb) : lb = colR ats [] := by
  rw [rgo1_eq] at h
  cases hf : ats.find? bad with
  | some a => rw [hf] at h; simp at h
  | none => rw [hf] at h; simp at h; exact h.symm
theorem OpQ.good {B : Nat → Prop} {w w' : World} {Q : Nat} {L : List Bs} {nm : ByteArray} {pl : Int} {ats : Ats} {x : (ByteArray × ByteArray) × List Out} {rv : Value} (h : opR L nm pl ats = .ok x) (hA : RowA w' rv x.2) (hR : RSO (Bx B w w') w' Q (L ++ [colR ats []])) (hf : Fro (fun k => k = Q) w w') : OpQ B w Q L nm pl ats (.returned (.tuple #[.agg #[.string x.1.1, .string x.1.2, rv, .int .i64 pl], .int .i64 0, .int .i64 0])) w' := by
  unfold OpQ
  rw [h]
  exact ⟨rv, rfl, hA, hR, hf⟩
theorem OpQ.bad {B : Nat → Prop} {w w' : World} {Q : Nat} {L : List Bs} {nm : ByteArray} {pl : Int} {ats : Ats} {x : Int × Int} (h : opR L nm pl ats = .error x) (hb : Below w.heap.size w w') : OpQ B w Q L nm pl ats (.returned (.tuple #[.agg #[.string ⟨#[]⟩, .string ⟨#[]⟩, .slice none 0 0, .int .i64 0], .int .i64 x.1, .int .i64 x.2])) w' := by
  unfold OpQ
  rw [h]
  exact ⟨rfl, hb⟩
end Go.Proofs.Ytgidbmiahckleaa
