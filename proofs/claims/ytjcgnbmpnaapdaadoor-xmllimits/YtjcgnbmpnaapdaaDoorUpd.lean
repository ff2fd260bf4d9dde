/- The parser's state, field by field: what a store or an append leaves. -/
import Derived.Test.YtjcgnbmpnaapdaaDoorFull
namespace Go.Proofs.YtjcgnbmpnaapdaaDoor
open Go.RowKit
set_option linter.unusedVariables false

theorem rr_ty {B n : Nat} {w : World} {v : Value} {xs : List Value} {t : TypeId} (h : RR B w v n xs) (ht : t ≠ 35) : ∀ g, v.ownBlock = some g → ∀ c f, w.heap[g]? ≠ some (Obj.cells c t f) := by
  intro g hg c f hh
  rcases h with ⟨rfl, _⟩ | ⟨g', off, cap, rfl, _, ⟨cur, h1, _⟩, _⟩
  · simp [Value.ownBlock] at hg
  · simp [Value.ownBlock] at hg
    subst hg
    rw [h1] at hh
    simp at hh
    exact ht hh.2.1.symm
theorem own_ty {B n size : Nat} {e t : TypeId} {w : World} {v : Value} {xs : List Value} (h : w.ownsRow B e size v n xs) (ht : t ≠ e) : ∀ g, v.ownBlock = some g → ∀ c f, w.heap[g]? ≠ some (Obj.cells c t f) := by
  intro g hg c f hh
  rcases h.2 with ⟨rfl, _⟩ | ⟨g', cap, cur, rfl, _, h1, _⟩
  · simp [Value.ownBlock] at hg
  · simp [Value.ownBlock] at hg
    subst hg
    rw [h1] at hh
    simp at hh
    exact ht hh.2.1.symm
theorem In.ky {P k : Nat} {w w' : World} {v : PV} {l : Bs} (h : In P w v l k) (h5 : Ky 5 w w') (h81 : Ky 81 w w') : In P w' v l k :=
  ⟨h81 _ _ _ h.ps, ⟨h5.own h.br.1, h.br.2⟩, h.ke, h.kl, h.ll⟩
theorem In.pset {P k i : Nat} {w : World} {v v' : PV} {l : Bs} {x : Value} (h : In P w v l k) (hx : v.cells.setIfInBounds i x = v'.cells) (hb : v'.b = v.b) (hk : v'.k = v.k) : In P (w.setCell ⟨P, i, none⟩ x) v' l k :=
  ⟨h.ps.set i x hx, by rw [hb]; exact h.br.kept h.ps (grownBy_set _ _ _ _), by rw [hk]; exact h.ke, h.kl, h.ll⟩

/-- A store into one of the parser's cells: nothing else has turned. -/
theorem ky_pset {P i : Nat} {w : World} {v : PV} {t : TypeId} (h : PS w P v) (ht : t ≠ 81) (x : Value) : Ky t w (w.setCell ⟨P, i, none⟩ x) := ky_ps h (grownBy_set _ _ _ _) ht

theorem Full.ready {B P : Nat} {w w3 : World} {v : PV} {l : Bs} {L : Lm} {s : S} {rv : Value} {es : List Ev} {xs : List Value} (h : Full B P w v l L s) (hg : w.grownBy w3 v.ready.ownBlock) (hr : RR B w3 rv es.length xs) (he : EvC B w3 es xs) (hl : es.length ≤ 3)
    (hn : ∀ k, rv.ownBlock = some k → v.ready.ownBlock = some k ∨ w.heap.size ≤ k) :
    Full B P (w3.setCell ⟨P, 14, none⟩ rv) { v with ready := rv } l L { s with ready := es } ∧ Fr P w (w3.setCell ⟨P, 14, none⟩ rv) v { v with ready := rv } := by
  obtain ⟨ys, h1, h2⟩ := h.rd
  have hk : ∀ {t : TypeId}, t ≠ 35 → Ky t w w3 := fun ht => Ky.of hg (rr_ty h1 ht)
  have hi3 : In P w3 v l s.k := h.inn.ky (hk (by decide)) (hk (by decide))
  have hk4 : ∀ {t : TypeId}, t ≠ 81 → Ky t w3 (w3.setCell ⟨P, 14, none⟩ rv) := fun ht => ky_pset hi3.ps ht rv
  refine ⟨⟨hi3.pset (i := 14) rfl rfl rfl, h.pb, h.gb, Nat.le_trans h.sz (Nat.le_trans hg.size (grownBy_set w3 P 14 rv).size), h.ld, h.lN, h.la, h.lt', h.bD, h.bA, h.bT, h.lg, (hk4 (by decide)).own ((hk (by decide)).own h.op), h.opl, h.nd, h.bg, h.ta, (hk4 (by decide)).own ((hk (by decide)).own h.to), h.tb, h.tl, ⟨xs, (hk4 (by decide)).rr hr, EvC.ky (hk4 (by decide)) he⟩, hl, h.ov, h.fa, h.fe, h.bN, h.nb, h.ob⟩, ?_⟩
  have hg4 := grownBy_set w3 P 14 rv
  refine ⟨hg4.os.trans hg.os, hg4.tape.trans hg.tape, hg4.output.trans hg.output, Nat.le_trans hg.size hg4.size, ?_, fun _ e => .inl e, hn, fun _ e => .inl e⟩
  intro k hk1 n1 n2 n3 n4
  rw [hg4.block k (Nat.lt_of_lt_of_le hk1 hg.size) (by simpa using n1), hg.block k hk1 n3]

theorem Full.openv {B P : Nat} {w w3 : World} {v : PV} {l : Bs} {L : Lm} {s : S} {ov : Value} {ns : List Bs} (h : Full B P w v l L s) (hg : w.grownBy w3 v.op.ownBlock) (hr : NR B w3 ov ns) (hl : (ns.length : Int) ≤ L.D) (hob : ∀ n ∈ ns, Bd n ∧ n.length ≤ 65536)
    (hn : ∀ k, ov.ownBlock = some k → v.op.ownBlock = some k ∨ w.heap.size ≤ k) :
    Full B P (w3.setCell ⟨P, 9, none⟩ ov) { v with op := ov } l L { s with op := ns } ∧ Fr P w (w3.setCell ⟨P, 9, none⟩ ov) v { v with op := ov } := by
  obtain ⟨xs, h1, h2⟩ := h.rd
  have hk : ∀ {t : TypeId}, t ≠ 9 → Ky t w w3 := fun ht => Ky.of hg (own_ty h.op ht)
  have hi3 : In P w3 v l s.k := h.inn.ky (hk (by decide)) (hk (by decide))
  have hk4 : ∀ {t : TypeId}, t ≠ 81 → Ky t w3 (w3.setCell ⟨P, 9, none⟩ ov) := fun ht => ky_pset hi3.ps ht ov
  refine ⟨⟨hi3.pset (i := 9) rfl rfl rfl, h.pb, h.gb, Nat.le_trans h.sz (Nat.le_trans hg.size (grownBy_set w3 P 9 ov).size), h.ld, h.lN, h.la, h.lt', h.bD, h.bA, h.bT, h.lg, (hk4 (by decide)).own hr, hl, h.nd, h.bg, h.ta, (hk4 (by decide)).own ((hk (by decide)).own h.to), h.tb, h.tl, ⟨xs, (hk4 (by decide)).rr ((hk (by decide)).rr h1), EvC.ky (hk4 (by decide)) (EvC.ky (hk (by decide)) h2)⟩, h.rl, h.ov, h.fa, h.fe, h.bN, h.nb, hob⟩, ?_⟩
  have hg4 := grownBy_set w3 P 9 ov
  refine ⟨hg4.os.trans hg.os, hg4.tape.trans hg.tape, hg4.output.trans hg.output, Nat.le_trans hg.size hg4.size, ?_, fun _ e => .inl e, fun _ e => .inl e, hn⟩
  intro k hk1 n1 n2 n3 n4
  rw [hg4.block k (Nat.lt_of_lt_of_le hk1 hg.size) (by simpa using n1), hg.block k hk1 n4]

/-- The text's three cells. -/
theorem Full.text3 {B P : Nat} {w : World} {v : PV} {l : Bs} {L : Lm} {s : S} (b : Bool) (a : Int) (h : Full B P w v l L s) :
    Full B P (((w.setCell ⟨P, 11, none⟩ (.bool b)).setCell ⟨P, 12, none⟩ (.int .i64 a)).setCell ⟨P, 13, none⟩ (.slice none 0 0)) { v with begun := b, tat := a, tout := .slice none 0 0 } l L { s with begun := b, tat := a, tout := [] } ∧
      Fr P w (((w.setCell ⟨P, 11, none⟩ (.bool b)).setCell ⟨P, 12, none⟩ (.int .i64 a)).setCell ⟨P, 13, none⟩ (.slice none 0 0)) v { v with begun := b, tat := a, tout := .slice none 0 0 } := by
  have i1 : In P (w.setCell ⟨P, 11, none⟩ (.bool b)) { v with begun := b } l s.k := h.inn.pset (i := 11) rfl rfl rfl
  have i2 : In P ((w.setCell ⟨P, 11, none⟩ (.bool b)).setCell ⟨P, 12, none⟩ (.int .i64 a)) { v with begun := b, tat := a } l s.k := i1.pset (i := 12) rfl rfl rfl
  have i3 : In P (((w.setCell ⟨P, 11, none⟩ (.bool b)).setCell ⟨P, 12, none⟩ (.int .i64 a)).setCell ⟨P, 13, none⟩ (.slice none 0 0)) { v with begun := b, tat := a, tout := .slice none 0 0 } l s.k := i2.pset (i := 13) rfl rfl rfl
  have hg : w.grownBy (((w.setCell ⟨P, 11, none⟩ (.bool b)).setCell ⟨P, 12, none⟩ (.int .i64 a)).setCell ⟨P, 13, none⟩ (.slice none 0 0)) (some P) := grownBy_trans (grownBy_trans (grownBy_set _ _ _ _) (grownBy_set _ _ _ _)) (grownBy_set _ _ _ _)
  have hk : ∀ {t : TypeId}, t ≠ 81 → Ky t w (((w.setCell ⟨P, 11, none⟩ (.bool b)).setCell ⟨P, 12, none⟩ (.int .i64 a)).setCell ⟨P, 13, none⟩ (.slice none 0 0)) := fun ht => ky_ps h.inn.ps hg ht
  obtain ⟨xs, h1, h2⟩ := h.rd
  have hbT := h.bT
  refine ⟨⟨i3, h.pb, h.gb, Nat.le_trans h.sz hg.size, h.ld, h.lN, h.la, h.lt', h.bD, h.bA, h.bT, h.lg, (hk (by decide)).own h.op, h.opl, h.nd, rfl, rfl, World.ownsRow_nil _ _ _ _, bd_nil, by simp; omega, ⟨xs, (hk (by decide)).rr h1, EvC.ky (hk (by decide)) h2⟩, h.rl, h.ov, h.fa, h.fe, h.bN, h.nb, h.ob⟩, ?_⟩
  exact ⟨hg.os, hg.tape, hg.output, hg.size, fun k hk1 n1 _ _ _ => hg.block k hk1 (by simpa using n1), fun k e => by simp [Value.ownBlock] at e, fun _ e => .inl e, fun _ e => .inl e⟩

theorem Full.toutv {B P : Nat} {w w3 : World} {v : PV} {l : Bs} {L : Lm} {s : S} {tv : Value} {o : Bs} (h : Full B P w v l L s) (hg : w.grownBy w3 v.tout.ownBlock) (hr : OR B w3 tv o) (hb : ∀ i, 0 ≤ o.getD i 0 ∧ o.getD i 0 < 256) (hl : (o.length : Int) ≤ L.T)
    (hn : ∀ k, tv.ownBlock = some k → v.tout.ownBlock = some k ∨ w.heap.size ≤ k) (hne : v.tout.ownBlock = none ∨ v.tout.ownBlock ≠ v.b.ownBlock) :
    Full B P (w3.setCell ⟨P, 13, none⟩ tv) { v with tout := tv } l L { s with tout := o } ∧ Fr P w (w3.setCell ⟨P, 13, none⟩ tv) v { v with tout := tv } := by
  obtain ⟨xs, h1, h2⟩ := h.rd
  have hk : ∀ {t : TypeId}, t ≠ 5 → Ky t w w3 := fun ht => Ky.of hg (own_ty h.to ht)
  have hbr : BR w3 v.b l := by
    refine ⟨h.inn.br.1.kept hg ?_, h.inn.br.2⟩
    rcases hne with e | e
    · rcases h.inn.br.1.2 with ⟨e2, _⟩ | ⟨g, cap, cur, e2, _⟩
      · left; rw [e2]; rfl
      · right; rw [e, e2]; simp [Value.ownBlock]
    · exact .inr (fun x => e x.symm)
  have hi3 : In P w3 v l s.k := ⟨hk (by decide) _ _ _ h.inn.ps, hbr, h.inn.ke, h.inn.kl, h.inn.ll⟩
  have hk4 : ∀ {t : TypeId}, t ≠ 81 → Ky t w3 (w3.setCell ⟨P, 13, none⟩ tv) := fun ht => ky_pset hi3.ps ht tv
  refine ⟨⟨hi3.pset (i := 13) rfl rfl rfl, h.pb, h.gb, Nat.le_trans h.sz (Nat.le_trans hg.size (grownBy_set w3 P 13 tv).size), h.ld, h.lN, h.la, h.lt', h.bD, h.bA, h.bT, h.lg, (hk4 (by decide)).own ((hk (by decide)).own h.op), h.opl, h.nd, h.bg, h.ta, (hk4 (by decide)).own hr, hb, hl, ⟨xs, (hk4 (by decide)).rr ((hk (by decide)).rr h1), EvC.ky (hk4 (by decide)) (EvC.ky (hk (by decide)) h2)⟩, h.rl, h.ov, h.fa, h.fe, h.bN, h.nb, h.ob⟩, ?_⟩
  have hg4 := grownBy_set w3 P 13 tv
  refine ⟨hg4.os.trans hg.os, hg4.tape.trans hg.tape, hg4.output.trans hg.output, Nat.le_trans hg.size hg4.size, ?_, hn, fun _ e => .inl e, fun _ e => .inl e⟩
  intro k hk1 n1 n2 n3 n4
  rw [hg4.block k (Nat.lt_of_lt_of_le hk1 hg.size) (by simpa using n1), hg.block k hk1 n2]
theorem Full.nodesv {B P : Nat} {w : World} {v : PV} {l : Bs} {L : Lm} {s : S} (x : Int) (h : Full B P w v l L s) (hx : 0 ≤ x ∧ x ≤ L.N) :
    Full B P (w.setCell ⟨P, 10, none⟩ (.int .i64 x)) { v with nodes := x } l L { s with nodes := x } ∧ Fr P w (w.setCell ⟨P, 10, none⟩ (.int .i64 x)) v { v with nodes := x } := by
  obtain ⟨xs, h1, h2⟩ := h.rd
  have hg := grownBy_set w P 10 (.int .i64 x)
  have hk : ∀ {t : TypeId}, t ≠ 81 → Ky t w (w.setCell ⟨P, 10, none⟩ (.int .i64 x)) := fun ht => ky_ps h.inn.ps hg ht
  refine ⟨⟨h.inn.pset (i := 10) rfl rfl rfl, h.pb, h.gb, Nat.le_trans h.sz hg.size, h.ld, h.lN, h.la, h.lt', h.bD, h.bA, h.bT, h.lg, (hk (by decide)).own h.op, h.opl, rfl, h.bg, h.ta, (hk (by decide)).own h.to, h.tb, h.tl, ⟨xs, (hk (by decide)).rr h1, EvC.ky (hk (by decide)) h2⟩, h.rl, h.ov, h.fa, h.fe, h.bN, hx, h.ob⟩, ?_⟩
  exact ⟨hg.os, hg.tape, hg.output, hg.size, fun k hk1 n1 _ _ _ => hg.block k hk1 (by simpa using n1), fun _ e => .inl e, fun _ e => .inl e, fun _ e => .inl e⟩
theorem Full.overv {B P : Nat} {w : World} {v : PV} {l : Bs} {L : Lm} {s : S} (h : Full B P w v l L s) :
    Full B P (w.setCell ⟨P, 17, none⟩ (.bool true)) { v with over := true } l L { s with over := true } ∧ Fr P w (w.setCell ⟨P, 17, none⟩ (.bool true)) v { v with over := true } := by
  obtain ⟨xs, h1, h2⟩ := h.rd
  have hg := grownBy_set w P 17 (.bool true)
  have hk : ∀ {t : TypeId}, t ≠ 81 → Ky t w (w.setCell ⟨P, 17, none⟩ (.bool true)) := fun ht => ky_ps h.inn.ps hg ht
  refine ⟨⟨h.inn.pset (i := 17) rfl rfl rfl, h.pb, h.gb, Nat.le_trans h.sz hg.size, h.ld, h.lN, h.la, h.lt', h.bD, h.bA, h.bT, h.lg, (hk (by decide)).own h.op, h.opl, h.nd, h.bg, h.ta, (hk (by decide)).own h.to, h.tb, h.tl, ⟨xs, (hk (by decide)).rr h1, EvC.ky (hk (by decide)) h2⟩, h.rl, rfl, h.fa, h.fe, h.bN, h.nb, h.ob⟩, ?_⟩
  exact ⟨hg.os, hg.tape, hg.output, hg.size, fun k hk1 n1 _ _ _ => hg.block k hk1 (by simpa using n1), fun _ e => .inl e, fun _ e => .inl e, fun _ e => .inl e⟩
/-- Behind a step that makes memory alone. -/
theorem Full.below {B P : Nat} {w w' : World} {v : PV} {l : Bs} {L : Lm} {s : S} (h : Full B P w v l L s) (hb : Below w.heap.size w w') : Full B P w' v l L s ∧ Fr P w w' v v := by
  obtain ⟨xs, h1, h2⟩ := h.rd
  have hg : w.grownBy w' none := grownBy_of_below hb none
  have hk : ∀ {t : TypeId}, Ky t w w' := fun {t} => Ky.of hg (fun g e => by cases e)
  refine ⟨⟨h.inn.ky hk hk, h.pb, h.gb, Nat.le_trans h.sz hg.size, h.ld, h.lN, h.la, h.lt', h.bD, h.bA, h.bT, h.lg, hk.own h.op, h.opl, h.nd, h.bg, h.ta, hk.own h.to, h.tb, h.tl, ⟨xs, hk.rr h1, EvC.ky hk h2⟩, h.rl, h.ov, h.fa, h.fe, h.bN, h.nb, h.ob⟩, ?_⟩
  exact ⟨hg.os, hg.tape, hg.output, hg.size, fun k hk1 _ _ _ _ => hg.block k hk1 (by simp), fun _ e => .inl e, fun _ e => .inl e, fun _ e => .inl e⟩
/-- What a step of the parser answers. -/
def Rd (B P : Nat) (w : World) (v : PV) (l : Bs) (L : Lm) (x : Q) (e : Ending) (w' : World) : Prop :=
  match x with
  | .go s' => e = .returned (.tuple #[]) ∧ ∃ v', Full B P w' v' l L s' ∧ Fr P w w' v v'
  | .bad p er => e = .panicked (flt p er) ∧ ∃ v', PS w' P v' ∧ v'.ready = v.ready ∧ Fr P w w' v v'
end Go.Proofs.YtjcgnbmpnaapdaaDoor
