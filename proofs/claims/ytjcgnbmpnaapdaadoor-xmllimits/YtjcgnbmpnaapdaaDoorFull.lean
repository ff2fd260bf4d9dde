/- The parser's whole state in memory, against the plain one. -/
import Derived.Test.YtjcgnbmpnaapdaaDoorRdy
namespace Go.Proofs.YtjcgnbmpnaapdaaDoor
open Go.RowKit
set_option linter.unusedVariables false

/-- All blocks of a type are as they were. -/
def Ky (t : TypeId) (w w' : World) : Prop := ∀ (k : Nat) (c : Array Value) (f : Nat × Nat), w.heap[k]? = some (Obj.cells c t f) → w'.heap[k]? = some (Obj.cells c t f)
theorem Ky.refl (t : TypeId) (w : World) : Ky t w w := fun _ _ _ h => h
theorem Ky.trans {t : TypeId} {a b c : World} (h : Ky t a b) (k : Ky t b c) : Ky t a c := fun i x f hi => k i x f (h i x f hi)
theorem Ky.of {t : TypeId} {w w' : World} {row : Option Nat} (hg : w.grownBy w' row) (hrow : ∀ g, row = some g → ∀ c f, w.heap[g]? ≠ some (.cells c t f)) : Ky t w w' := by
  intro k c f hk
  rw [hg.block k (Array.getElem?_eq_some_iff.1 hk).1 (fun e => hrow k e.symm c f hk)]
  exact hk
theorem Ky.own {t : TypeId} {w w' : World} {B n size : Nat} {v : Value} {xs : List Value} (h : Ky t w w') (ho : w.ownsRow B t size v n xs) : w'.ownsRow B t size v n xs := by
  refine ⟨ho.1, ?_⟩
  rcases ho.2 with h0 | ⟨g, cap, cur, hv, hb, hg, r⟩
  · exact .inl h0
  · exact .inr ⟨g, cap, cur, hv, hb, h g cur (0, 0) hg, r⟩
theorem Ky.rr {w w' : World} {B n : Nat} {v : Value} {xs : List Value} (h : Ky 35 w w') (ho : RR B w v n xs) : RR B w' v n xs := by
  rcases ho with h0 | ⟨g, off, cap, hv, hB, ⟨cur, hh, hs⟩, h1, h2, h3, h4⟩
  · exact .inl h0
  · have hb : w'.heap[g]? = w.heap[g]? := (h g cur (0, 0) hh).trans hh.symm
    exact .inr ⟨g, off, cap, hv, hB, ⟨cur, hb.trans hh, hs⟩, h1, h2, h3, fun j hj => (World.cell?_of_block (a := ⟨g, off + j, none⟩) hb).trans (h4 j hj)⟩

def evHead (e : Ev) (sv : Value) : List Value := [.int .i64 e.kind, .int .i64 e.place, .string (sb e.name), .string (sb e.text), sv]
abbrev Bd (l : Bs) : Prop := ∀ i, 0 ≤ l.getD i 0 ∧ l.getD i 0 < 256
/-- An event whose texts are bytes. -/
structure EvOk (e : Ev) : Prop where
  nm : Bd e.name
  tx : Bd e.text
  at' : ∀ a ∈ e.attrs, AtOk a
/-- Events as cells. -/
def EvC (B : Nat) (w : World) : List Ev → List Value → Prop
  | [], xs => xs = []
  | e :: es, xs => ∃ sv ys, xs = evHead e sv ++ ys ∧ (AR B w sv e.attrs ∧ EvOk e) ∧ EvC B w es ys
theorem EvC.len {B : Nat} {w : World} : ∀ {es : List Ev} {xs : List Value}, EvC B w es xs → xs.length = es.length * 5
  | [], xs, h => by rw [EvC] at h; subst h; rfl
  | e :: es, xs, h => by
    obtain ⟨sv, ys, rfl, _, h2⟩ := h
    have := EvC.len h2
    simp [evHead, this]
    omega
theorem EvC.ky {B : Nat} {w w' : World} (h : Ky 37 w w') : ∀ {es : List Ev} {xs : List Value}, EvC B w es xs → EvC B w' es xs
  | [], xs, hx => hx
  | e :: es, xs, hx => by
    obtain ⟨sv, ys, h0, h1, h2⟩ := hx
    exact ⟨sv, ys, h0, ⟨h.own h1.1, h1.2⟩, EvC.ky h h2⟩
theorem EvC.app {B : Nat} {w : World} : ∀ {es fs : List Ev} {xs ys : List Value}, EvC B w es xs → EvC B w fs ys → EvC B w (es ++ fs) (xs ++ ys)
  | [], fs, xs, ys, h, k => by rw [EvC] at h; subst h; exact k
  | e :: es, fs, xs, ys, h, k => by
    obtain ⟨sv, zs, rfl, h1, h2⟩ := h
    exact ⟨sv, zs ++ ys, by rw [List.append_assoc], h1, EvC.app h2 k⟩
theorem EvC.one {B : Nat} {w : World} {es : List Ev} {xs : List Value} (h : EvC B w es xs) : ∀ u ∈ xs, u.oneCell' = true := by
  induction es generalizing xs with
  | nil => rw [EvC] at h; subst h; intro u hu; cases hu
  | cons e es ih =>
    obtain ⟨sv, ys, rfl, h1, h2⟩ := h
    intro u hu
    rcases List.mem_append.1 hu with hu | hu
    · simp [evHead] at hu
      rcases hu with rfl | rfl | rfl | rfl | rfl
      · rfl
      · rfl
      · rfl
      · rfl
      · rcases h1.1.2 with ⟨rfl, _⟩ | ⟨g, cap, cur, rfl, _⟩ <;> rfl
    · exact ih h2 u hu

/-- The parser's state in memory. -/
structure Full (B P : Nat) (w : World) (v : PV) (l : Bs) (L : Lm) (s : S) : Prop where
  inn : In P w v l s.k
  pb : P < B
  gb : ∀ g, v.b.ownBlock = some g → g < B
  sz : B ≤ w.heap.size
  ld : v.d = L.D
  lN : v.n = L.N
  la : v.a = L.A
  lt' : v.t = L.T
  bD : 1 ≤ L.D ∧ L.D ≤ 64
  bA : 1 ≤ L.A ∧ L.A ≤ 64
  bT : 1 ≤ L.T ∧ L.T ≤ 4096
  lg : v.long = false
  op : NR B w v.op s.op
  opl : (s.op.length : Int) ≤ L.D
  nd : v.nodes = s.nodes
  bg : v.begun = s.begun
  ta : v.tat = s.tat
  to : OR B w v.tout s.tout
  tb : ∀ i, 0 ≤ s.tout.getD i 0 ∧ s.tout.getD i 0 < 256
  tl : (s.tout.length : Int) ≤ L.T
  rd : ∃ xs, RR B w v.ready s.ready.length xs ∧ EvC B w s.ready xs
  rl : s.ready.length ≤ 3
  ov : v.over = s.over
  fa : v.fat = 0
  fe : v.ferr = 0
  bN : 1 ≤ L.N ∧ L.N ≤ 4096
  nb : 0 ≤ s.nodes ∧ s.nodes ≤ L.N
  ob : ∀ n ∈ s.op, Bd n ∧ n.length ≤ 65536

/-- What a step of the parser leaves. -/
structure Fr (P : Nat) (w w' : World) (v v' : PV) : Prop where
  os : w'.os = w.os
  tape : w'.tape = w.tape
  output : w'.output = w.output
  size : w.heap.size ≤ w'.heap.size
  blk : ∀ k, k < w.heap.size → k ≠ P → some k ≠ v.tout.ownBlock → some k ≠ v.ready.ownBlock → some k ≠ v.op.ownBlock → w'.heap[k]? = w.heap[k]?
  nt : ∀ k, v'.tout.ownBlock = some k → v.tout.ownBlock = some k ∨ w.heap.size ≤ k
  nr : ∀ k, v'.ready.ownBlock = some k → v.ready.ownBlock = some k ∨ w.heap.size ≤ k
  no : ∀ k, v'.op.ownBlock = some k → v.op.ownBlock = some k ∨ w.heap.size ≤ k
theorem Fr.trans {P : Nat} {w1 w2 w3 : World} {v1 v2 v3 : PV} (h : Fr P w1 w2 v1 v2) (k : Fr P w2 w3 v2 v3) : Fr P w1 w3 v1 v3 := by
  refine ⟨k.os.trans h.os, k.tape.trans h.tape, k.output.trans h.output, Nat.le_trans h.size k.size, ?_, ?_, ?_, ?_⟩
  · intro i hi h1 h2 h3 h4
    rw [k.blk i (Nat.lt_of_lt_of_le hi h.size) h1, h.blk i hi h1 h2 h3 h4]
    · intro e; rcases h.nt i e.symm with e | e
      · exact h2 e.symm
      · omega
    · intro e; rcases h.nr i e.symm with e | e
      · exact h3 e.symm
      · omega
    · intro e; rcases h.no i e.symm with e | e
      · exact h4 e.symm
      · omega
  · intro i hi; rcases k.nt i hi with e | e
    · exact h.nt i e
    · right; have := h.size; omega
  · intro i hi; rcases k.nr i hi with e | e
    · exact h.nr i e
    · right; have := h.size; omega
  · intro i hi; rcases k.no i hi with e | e
    · exact h.no i e
    · right; have := h.size; omega
theorem Fr.scan {P : Nat} {w w' : World} {v : PV} {k : Int} (hg : w.grownBy w' (some P)) : Fr P w w' v { v with k := k } :=
  ⟨hg.os, hg.tape, hg.output, hg.size, fun i hi h1 _ _ _ => hg.block i hi (by simpa using h1), fun _ h => .inl h, fun _ h => .inl h, fun _ h => .inl h⟩
theorem ky_ps {t : TypeId} {P : Nat} {w w' : World} {v : PV} (hp : PS w P v) (hg : w.grownBy w' (some P)) (ht : t ≠ 81) : Ky t w w' := by
  refine Ky.of hg ?_
  intro g e c f h
  cases e
  unfold PS at hp
  rw [hp] at h
  simp at h
  exact ht h.2.1.symm
theorem Full.scan {B P k : Nat} {w w' : World} {v : PV} {l : Bs} {L : Lm} {s : S} (h : Full B P w v l L s) (hg : w.grownBy w' (some P)) (hi : In P w' { v with k := (k : Int) } l k) : Full B P w' { v with k := (k : Int) } l L { s with k := k } := by
  have hk : ∀ {t : TypeId}, t ≠ 81 → Ky t w w' := fun ht => ky_ps h.inn.ps hg ht
  obtain ⟨xs, h1, h2⟩ := h.rd
  exact ⟨hi, h.pb, h.gb, Nat.le_trans h.sz hg.size, h.ld, h.lN, h.la, h.lt', h.bD, h.bA, h.bT, h.lg, (hk (by decide)).own h.op, h.opl, h.nd, h.bg, h.ta, (hk (by decide)).own h.to, h.tb, h.tl, ⟨xs, (hk (by decide)).rr h1, EvC.ky (hk (by decide)) h2⟩, h.rl, h.ov, h.fa, h.fe, h.bN, h.nb, h.ob⟩
end Go.Proofs.YtjcgnbmpnaapdaaDoor
