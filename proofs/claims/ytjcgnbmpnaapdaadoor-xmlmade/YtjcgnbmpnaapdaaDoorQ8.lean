/- The contract of startTag. -/
import Derived.Test.YtjcgnbmpnaapdaaDoorQ7
import Derived.Test.YtjcgnbmpnaapdaaDoorM14
namespace Go.Proofs.YtjcgnbmpnaapdaaDoor
open Go.RowKit
set_option linter.unusedVariables false

theorem NR.len {B : Nat} {w : World} {v : Value} {l : List Bs} (h : NR B w v l) : ∃ a cap, v = .slice a l.length cap := by
  rcases h.2 with ⟨rfl, h0⟩ | ⟨g, cap, cur, rfl, _⟩
  · exact ⟨none, 0, by rw [h0]⟩
  · exact ⟨_, cap, rfl⟩
theorem AR.len {B : Nat} {w : World} {v : Value} {l : List At} (h : AR B w v l) : ∃ a cap, v = .slice a l.length cap := by
  rcases h.2 with ⟨rfl, h0⟩ | ⟨g, cap, cur, rfl, _⟩
  · exact ⟨none, 0, by rw [h0]⟩
  · exact ⟨_, cap, rfl⟩
theorem own_blk {w w' : World} {B n size : Nat} {e : TypeId} {v : Value} {xs : List Value} (h : w.ownsRow B e size v n xs) (hb : ∀ g, v.ownBlock = some g → w'.heap[g]? = w.heap[g]?) : w'.ownsRow B e size v n xs := by
  refine ⟨h.1, ?_⟩
  rcases h.2 with h0 | ⟨g, cap, cur, rfl, hbg, hg, r⟩
  · exact .inl h0
  · exact .inr ⟨g, cap, cur, rfl, hbg, (hb g rfl).trans hg, r⟩
theorem rr_blk {w w' : World} {B n : Nat} {v : Value} {xs : List Value} (h : RR B w v n xs) (hb : ∀ g, v.ownBlock = some g → w'.heap[g]? = w.heap[g]?) : RR B w' v n xs := by
  rcases h with h0 | ⟨g, off, cap, rfl, hB, ⟨cur, hh, hs⟩, h1, h2, h3, h4⟩
  · exact .inl h0
  · have e := hb g rfl
    exact .inr ⟨g, off, cap, rfl, hB, ⟨cur, e.trans hh, hs⟩, h1, h2, h3, fun j hj => (World.cell?_of_block (a := ⟨g, off + j, none⟩) e).trans (h4 j hj)⟩
/-- All rows of the parser lie below M. -/
structure VB (P M : Nat) (v : PV) : Prop where
  p : P < M
  b : ∀ g, v.b.ownBlock = some g → g < M
  o : ∀ g, v.op.ownBlock = some g → g < M
  t : ∀ g, v.tout.ownBlock = some g → g < M
  r : ∀ g, v.ready.ownBlock = some g → g < M
theorem Full.vb {B P : Nat} {w : World} {v : PV} {l : Bs} {L : Lm} {s : S} (h : Full B P w v l L s) : VB P w.heap.size v := by
  obtain ⟨xs, hr, _⟩ := h.rd
  exact ⟨h.inn.ps.lt, fun g hg => (h.inn.br.1.lt g hg).2, fun g hg => (h.op.lt g hg).2, fun g hg => (h.to.lt g hg).2, fun g hg => (hr.lt g hg).2⟩
theorem VB.le {P M M' : Nat} {v : PV} (h : VB P M v) (hM : M ≤ M') : VB P M' v := ⟨Nat.lt_of_lt_of_le h.p hM, fun g e => Nat.lt_of_lt_of_le (h.b g e) hM, fun g e => Nat.lt_of_lt_of_le (h.o g e) hM, fun g e => Nat.lt_of_lt_of_le (h.t g e) hM, fun g e => Nat.lt_of_lt_of_le (h.r g e) hM⟩
theorem Full.belowM {B P M : Nat} {w w' : World} {v : PV} {l : Bs} {L : Lm} {s : S} (h : Full B P w v l L s) (hrd : s.ready = []) (hv : VB P M v) (hb : Below M w w') : Full B P w' v l L s := by
  obtain ⟨xs, h1, h2⟩ := h.rd
  have hx : EvC B w' s.ready xs := by rw [hrd] at h2 ⊢; exact h2
  exact ⟨h.inn.below hb hv.p hv.b, h.pb, h.gb, Nat.le_trans h.sz hb.size, h.ld, h.lN, h.la, h.lt', h.bD, h.bA, h.bT, h.lg, own_blk h.op (fun g e => hb.block g (hv.o g e)), h.opl, h.nd, h.bg, h.ta, own_blk h.to (fun g e => hb.block g (hv.t g e)), h.tb, h.tl, ⟨xs, rr_blk h1 (fun g e => hb.block g (hv.r g e)), hx⟩, h.rl, h.ov, h.fa, h.fe, h.bN, h.nb, h.ob⟩
theorem Fr.belowM {P M : Nat} {w0 w w' : World} {v0 v : PV} (h : Fr P w0 w v0 v) (hb : Below M w w') (hM : w0.heap.size ≤ M) : Fr P w0 w' v0 v :=
  ⟨hb.os.trans h.os, hb.tape.trans h.tape, hb.output.trans h.output, Nat.le_trans h.size hb.size, fun k hk a b c d => (hb.block k (by omega)).trans (h.blk k hk a b c d), h.nt, h.nr, h.no⟩
theorem info37 : (Tryd.prog.info? 37).map (fun i => (i.zero, i.size, i.bytes)) = some (some (.agg #[.string ⟨#[]⟩, .string ⟨#[]⟩, .int .i64 0]), 3, 40) := by kernel_rfl
theorem info37p : ∃ i, Tryd.prog.info? 37 = some i ∧ i.zero = some (.agg #[.string ⟨#[]⟩, .string ⟨#[]⟩, .int .i64 0]) ∧ i.size = 3 ∧ i.bytes = 40 := by
  have := info37
  cases h : Tryd.prog.info? 37 with
  | none => rw [h] at this; simp at this
  | some i => rw [h] at this; simp at this; exact ⟨i, rfl, this.1, this.2.1, this.2.2⟩
theorem push_full {B P E M : Nat} {w : World} {v : PV} {l : Bs} {L : Lm} {s : S} {nm : Bs} {cs : Array Value} {sv : Value} {al : List At} (h : Full B P w v l L s) (hdl : (((s.op ++ [nm]).length : Nat) : Int) ≤ L.D) (hb : Bd nm) (hl : nm.length ≤ 65536)
    (hE : w.heap[E]? = some (.cells cs 35 (0, 0))) (hPE : P ≠ E) (hAR : AR M w sv al) :
    Calls Tryd.prog 75 #[.pointer (some ⟨P, 9, none⟩), .string (sb nm)] w fun e w' => e = .returned (.tuple #[]) ∧ ∃ v', Full B P w' v' l L { s with op := s.op ++ [nm] } ∧ Fr P w w' v v' ∧ w'.heap[E]? = some (.cells cs 35 (0, 0)) ∧ AR M w' sv al := by
  have hneO : v.op.ownBlock ≠ some P := by
    rcases own_ne81 h.inn.ps h.op (by decide) with e | e
    · rw [e]; simp
    · exact e
  have hD := h.bD
  have hDl := h.opl
  refine (push_any (B := B) (O := P) (f := 9) (nm := nm) (h.inn.ps.cell 9) (h.inn.ps.froz 9) h.op h.sz (by omega) hneO).mono ?_
  rintro e w' ⟨rfl, ov', w3, hg3, hNR, hnn, hnb3, rfl⟩
  have F5 := Full.openv h hg3 hNR hdl (by
    intro x hx
    rcases List.mem_append.1 hx with h1 | h1
    · exact h.ob x h1
    · simp at h1; subst h1; exact ⟨hb, hl⟩) hnb3
  have hE3 := (Ky.of hg3 (own_ty h.op (t := 35) (by decide))) _ _ _ hE
  have hA3 := (Ky.of hg3 (own_ty h.op (t := 37) (by decide))).own hAR
  have hps3 : PS w3 P v := PS.kept h.inn.ps hg3 (fun e => hneO e.symm)
  exact ⟨rfl, _, F5.1, F5.2, ((grownBy_set w3 P 9 ov').block _ (Array.getElem?_eq_some_iff.1 hE3).1 (by simpa using Ne.symm hPE)).trans hE3, (ky_pset hps3 (by decide) ov').own hA3⟩
/-- The tag's event, as it is made. -/
def EvB (E : Nat) (lt0 : Int) (nm : Bs) (sv : Value) (w : World) : Prop := w.heap[E]? = some (.cells #[.int .i64 1, .int .i64 lt0, .string (sb nm), .string ⟨#[]⟩, sv] 35 (0, 0))
def TagR (B P E : Nat) (w : World) (v : PV) (l : Bs) (L : Lm) (s : S) (lt0 : Int) (nm : Bs) (j : Nat) (al : List At) (sv : Value) (wr : World) : Prop :=
  Full B P wr { v with nodes := s.nodes + 1, k := (j : Int) } l L { s with nodes := s.nodes + 1, k := j } ∧ Fr P w wr v { v with nodes := s.nodes + 1, k := (j : Int) } ∧ EvB E lt0 nm sv wr ∧ AR E wr sv al ∧ (∀ a ∈ al, AtOk a) ∧ (al.length : Int) ≤ L.A ∧ w.heap.size ≤ E

theorem attr_pos {l : Bs} {T : Int} {al : List At} {a : At} {j1 j2 : Nat} (h : attrS l T al j1 = .ok a j2) : j1 < j2 := by
  unfold attrS at h
  obtain ⟨nm, k1, h1, h2⟩ := bind_inv h
  have hk : j1 ≤ l.length := by have := okl_lt (nameS_ok h1).2.1; omega
  have g1 := (M.name_gd hk).use h1
  obtain ⟨x, k2, h3, h4⟩ := bind_inv h2
  obtain ⟨_, _, rfl⟩ := M.peek_inv h3
  split at h4
  · cases h4
  obtain ⟨y, k3, h5, h6⟩ := bind_inv h4
  obtain ⟨z, k4, h7, h8⟩ := bind_inv h6
  unfold eqS at h5
  obtain ⟨q, k5, h9, h10⟩ := bind_inv h5
  obtain ⟨q2, k6, h11, h12⟩ := bind_inv h10
  obtain ⟨q3, k7, h13, h14⟩ := bind_inv h12
  have g2 := (M.blanks_gd g1.2).use h9
  have g3 := (M.sign_gd g2.2).use h11
  have p3 : k5 < k6 := by
    obtain ⟨o, _, e⟩ := M.sign_inv h11
    have := M.ln_pos o
    omega
  have g4 := (M.blanks_gd g3.2).use h13
  injection h14 with e1 e2
  have g5 := (M.value_gd (by omega)).use h7
  injection h8 with e3 e4
  omega
theorem AR.drewN {B : Nat} {w : World} {sv : Value} {l : List At} (h : AR B w sv l) (m : Nat) : AR B (w.drewN m) sv l := h
abbrev atO (a : At) : Obj := .cells #[.string (sb a.name), .string (sb a.value), .int .i64 a.place] 37
theorem tag_next {B P E k2 g cap : Nat} {w wa w4 : World} {v : PV} {l : Bs} {L : Lm} {s : S} {lt0 : Int} {nm : Bs} {al : List At} {a : At} {sv : Value} (h : TagR B P E w v l L s lt0 nm k2 al sv wa) (hrd : s.ready = []) (hvb : VB P w.heap.size v) (hao : AtOk a) (hlen : (al.length : Int) + 1 ≤ L.A)
    (hown4 : w4.ownsRow E 37 3 (.slice (some ⟨g, 0, none⟩) (al.length + 1) cap) (al.length + 1) (al.flatMap atCells ++ atCells a)) (hg4 : (wa.alloc (atO a)).grownBy w4 sv.ownBlock) :
    TagR B P E w v l L s lt0 nm k2 (al ++ [a]) (.slice (some ⟨g, 0, none⟩) (al.length + 1) cap) (w4.setCell ⟨E, 4, none⟩ (.slice (some ⟨g, 0, none⟩) (al.length + 1) cap)) := by
  obtain ⟨hF, hfr, hE, hAR, hAO, hAl, hEs⟩ := h
  have hEl : E < wa.heap.size := (Array.getElem?_eq_some_iff.1 hE).1
  have hb1 : Below E wa (wa.alloc (atO a)) := (Below.refl _ _).alloc (by omega) _
  have hb4 : Below E wa w4 := hb1.grown hg4 (by simp; omega) (fun k hk => (hAR.lt k hk).1)
  have hb5 := hb4.setCell (p := ⟨E, 4, none⟩) (Nat.le_refl _) (.slice (some ⟨g, 0, none⟩) (al.length + 1) cap)
  have hE4 : w4.heap[E]? = some (.cells #[.int .i64 1, .int .i64 lt0, .string (sb nm), .string ⟨#[]⟩, sv] 35 (0, 0)) := by
    have h1 : (wa.alloc (atO a)).heap[E]? = wa.heap[E]? := Below.heap_alloc _ _ _ hEl
    exact (Ky.of hg4 (own_ty (World.ownsRow.alloc hAR (atO a)) (t := 35) (by decide))) _ _ _ (h1.trans hE)
  have hgE : g ≠ E := by
    rintro rfl
    rcases hown4.2 with ⟨e, _⟩ | ⟨g', c', cur, e, _, hg, _⟩
    · cases e
    · simp at e
      obtain ⟨rfl, _⟩ := e
      rw [hE4] at hg
      simp at hg
  refine ⟨hF.belowM hrd ?_ hb5, hfr.belowM hb5 hEs, ?_, ?_, ?_, by simp; omega, hEs⟩
  · exact ⟨by have := hvb.p; omega, fun g e => Nat.lt_of_lt_of_le (hvb.b g e) hEs, fun g e => Nat.lt_of_lt_of_le (hvb.o g e) hEs, fun g e => Nat.lt_of_lt_of_le (hvb.t g e) hEs, fun g e => Nat.lt_of_lt_of_le (hvb.r g e) hEs⟩
  · exact Bk.set (i := 4) hE4 _
  · have := own_set (X := E) (i := 4) hown4 (by simp [Value.ownBlock]; exact hgE) (.slice (some ⟨g, 0, none⟩) (al.length + 1) cap)
    show World.ownsRow _ _ _ _ _ _ _
    rw [List.flatMap_append, List.length_append]
    simpa using this
  · intro x hx
    rcases List.mem_append.1 hx with h1 | h1
    · exact hAO x h1
    · simp at h1; subst h1; exact hao
set_option maxHeartbeats 3200000 in
set_option maxRecDepth 20000 in
theorem start_s {B P : Nat} {w : World} {v : PV} {l : Bs} {L : Lm} {s : S} (lt0 : Nat) (h : Full B P w v l L s) (hrd : s.ready = []) :
    Calls Tryd.prog 60 #[pp P, .int .i64 lt0] w (Rd B P w v l L (tagS l L s lt0 s.k)) := by
  have c1 := h.inn.rd
  have c3 : w.cell? ⟨P, 3, none⟩ = some (.int .i64 L.D) := by rw [← h.ld]; exact h.inn.ps.cell 3
  have c4 : w.cell? ⟨P, 4, none⟩ = some (.int .i64 L.N) := by rw [← h.lN]; exact h.inn.ps.cell 4
  have c9 : w.cell? ⟨P, 9, none⟩ = some v.op := h.inn.ps.cell 9
  have c10 : w.cell? ⟨P, 10, none⟩ = some (.int .i64 s.nodes) := by rw [← h.nd]; exact h.inn.ps.cell 10
  have f10 := h.inn.ps.froz 10
  obtain ⟨oa, ocap, hov⟩ := h.op.len
  rw [hov] at c9
  have hT := h.bT
  have hT' : 0 ≤ v.t ∧ v.t ≤ 65536 := by rw [h.lt']; omega
  have hN := h.bN
  have hnb := h.nb
  have hDl := h.opl
  have hD := h.bD
  obtain ⟨X, hX⟩ : ∃ X, X = tagS l L s lt0 s.k := ⟨_, rfl⟩
  rw [← hX]
  have HX : Hid (X = tagS l L s lt0 s.k) := hX
  clear hX
  have HH : Hid _ := h
  cases hok : okl l s.k
  · have HC : Hid (X = .bad s.k 2) := by rw [HX.out, tagS, peekS_f hok]; exact rfl
    clear h
    go_enter Tryd.func60, Tryd.ntmps60
    go_wp2_with (first | (go_at_call 40; refine (peek_f HH.out.inn hok).mono ?_; rintro e w' ⟨rfl, m, rfl⟩))
    refine ⟨rfl, ?_⟩
    rw [HC.out]
    exact rd_scan_bad (k := v.k) (gd _) HH.out.inn.ps
  cases hst : isStart (lt l s.k)
  · have HC : Hid (X = .bad s.k 2) := by rw [HX.out, tagS, peekS_t hok]; show (if isStart (lt l s.k) = false then Q.bad s.k 2 else _) = _; rw [if_pos hst]
    clear h
    go_enter Tryd.func60, Tryd.ntmps60
    go_wp2_with (first | (go_at_call 40; refine (peek_t HH.out.inn hok).mono ?_; rintro e w' ⟨rfl, m, rfl⟩) | (go_at_call 74; refine (start_any _ _).mono ?_; rintro e w' ⟨rfl, rfl⟩) | (go_at_call 47; refine (fail_any _ _ _).mono ?_; rintro e w' ⟨rfl, rfl⟩))
    refine ⟨rfl, ?_⟩
    rw [HC.out]
    exact rd_scan_bad (k := v.k) (gd _) HH.out.inn.ps
  have HX1 : Hid (X = if (s.op.length : Int) = L.D ∨ s.nodes = L.N then .bad lt0 3 else (nameS l L.T s.k).q fun nm k1 => (attrsL (l.length + 1) l L.A L.T [] k1).q fun p k2 => match p with
      | (l, none) => .go (tellS { s with nodes := s.nodes + 1, k := k2, op := s.op ++ [nm] } [⟨1, lt0, nm, [], l⟩])
      | (l, some sl) => .go (tellS { s with nodes := s.nodes + 1, k := k2 } [⟨1, lt0, nm, [], l⟩, ⟨2, sl, nm, [], []⟩])) := by
    rw [HX.out, tagS, peekS_t hok]; show (if isStart (lt l s.k) = false then Q.bad s.k 2 else _) = _; rw [if_neg (by rw [hst]; simp)]; exact rfl
  clear HX
  by_cases hcap : (s.op.length : Int) = L.D ∨ s.nodes = L.N
  · have HC : Hid (X = .bad lt0 3) := by rw [HX1.out, if_pos hcap]; exact rfl
    clear HX1
    by_cases h1 : (s.op.length : Int) = L.D
    · have h1b : ((s.op.length : Int) == L.D) = true := by simp [h1]
      clear h hcap h1
      go_enter Tryd.func60, Tryd.ntmps60
      go_wp2_with (first | (go_at_call 40; refine (peek_t HH.out.inn hok).mono ?_; rintro e w' ⟨rfl, m, rfl⟩) | (go_at_call 74; refine (start_any _ _).mono ?_; rintro e w' ⟨rfl, rfl⟩))
      go_quiet (fail)
      go_wp2_with (first | (go_at_call 35; refine (many_any _ _ _).mono ?_; rintro e w' ⟨rfl, rfl⟩))
      refine ⟨rfl, ?_⟩
      rw [HC.out]
      exact rd_scan_bad (k := v.k) (gd _) HH.out.inn.ps
    · have h1b : ((s.op.length : Int) == L.D) = false := by simp [h1]
      have h2b : (s.nodes == L.N) = true := by rcases hcap with e | e; exact absurd e h1; simp [e]
      clear h hcap h1
      go_enter Tryd.func60, Tryd.ntmps60
      go_wp2_with (first | (go_at_call 40; refine (peek_t HH.out.inn hok).mono ?_; rintro e w' ⟨rfl, m, rfl⟩) | (go_at_call 74; refine (start_any _ _).mono ?_; rintro e w' ⟨rfl, rfl⟩))
      go_quiet (fail)
      go_wp2_with (first | (go_at_call 35; refine (many_any _ _ _).mono ?_; rintro e w' ⟨rfl, rfl⟩))
      refine ⟨rfl, ?_⟩
      rw [HC.out]
      exact rd_scan_bad (k := v.k) (gd _) HH.out.inn.ps
  have h1b : ((s.op.length : Int) == L.D) = false := by simp; omega
  have h2b : (s.nodes == L.N) = false := by simp; omega
  have hn1 : s.nodes + 1 ≤ L.N := by omega
  have hop1 : (s.op.length : Int) + 1 ≤ L.D := by omega
  have HX2 : Hid (X = (nameS l L.T s.k).q fun nm k1 => (attrsL (l.length + 1) l L.A L.T [] k1).q fun p k2 => match p with
      | (l, none) => .go (tellS { s with nodes := s.nodes + 1, k := k2, op := s.op ++ [nm] } [⟨1, lt0, nm, [], l⟩])
      | (l, some sl) => .go (tellS { s with nodes := s.nodes + 1, k := k2 } [⟨1, lt0, nm, [], l⟩, ⟨2, sl, nm, [], []⟩])) := by
    rw [HX1.out, if_neg hcap]; exact rfl
  clear HX1 hcap
  have hnq : ∀ m, Full B P ((w.drewN m).setCell ⟨P, 10, none⟩ (.int .i64 (s.nodes + 1))) { v with nodes := s.nodes + 1 } l L { s with nodes := s.nodes + 1 } ∧ Fr P (w.drewN m) ((w.drewN m).setCell ⟨P, 10, none⟩ (.int .i64 (s.nodes + 1))) v { v with nodes := s.nodes + 1 } := fun m => (h.drewN m).nodesv (s.nodes + 1) (by omega)
  have HQ : Hid _ := hnq
  clear hnq
  rcases hn : nameS l L.T s.k with ⟨nm, k1⟩ | ⟨p, er⟩
  · have hTe : nameS l v.t s.k = .ok nm k1 := by rw [h.lt']; exact hn
    have HX3 : Hid (X = (attrsL (l.length + 1) l L.A L.T [] k1).q fun p k2 => match p with
      | (l, none) => .go (tellS { s with nodes := s.nodes + 1, k := k2, op := s.op ++ [nm] } [⟨1, lt0, nm, [], l⟩])
      | (l, some sl) => .go (tellS { s with nodes := s.nodes + 1, k := k2 } [⟨1, lt0, nm, [], l⟩, ⟨2, sl, nm, [], []⟩])) := by rw [HX2.out, hn]; exact rfl
    have hnmb : Bd nm := by rw [(nameS_ok hTe).1]; exact sub_bd h.inn.br.2
    have hnml : nm.length ≤ 65536 := by rw [(nameS_ok hTe).1]; have := sub_len' l s.k k1; have := h.inn.ll; omega
    have HNM : Hid _ := hTe
    have hdl : (((s.op ++ [nm]).length : Nat) : Int) ≤ L.D := by simp; omega
    have hvb := h.vb
    have hA := h.bA
    have hPB := h.pb
    have HRD : Hid _ := hrd
    have HLT : Hid _ := h.lt'
    have HOB : Hid _ := h.ob
    have HVB : Hid _ := hvb
    clear hn h hTe HX2 hvb hrd
    go_enter Tryd.func60, Tryd.ntmps60
    go_wp2_with (first | (go_at_call 40; refine (peek_t HH.out.inn hok).mono ?_; rintro e w' ⟨rfl, m, rfl⟩) | (go_at_call 74; refine (start_any _ _).mono ?_; rintro e w' ⟨rfl, rfl⟩))
    go_quiet (fail)
    go_wp2_with (first | (go_at_call 72; refine (scan_ok (name_s (HQ.out _).1.inn hT') HNM.out).mono ?_; rintro e w2 ⟨rfl, hg2, hi2⟩; have F2 := (HQ.out _).1.scan hg2 hi2; have f2 := (((Fr.refl P w v).drewN _).trans (HQ.out _).2).trans (Fr.scan (k := (k1 : Int)) hg2); have HF2 : Hid _ := And.intro F2 f2; clear F2 f2 hg2 hi2))
    go_loopg [] (l.length + 1) (fun n wr => ∃ (j : Nat) (al : List At) (sv : Value), TagR B P w2.heap.size w v l L s lt0 nm j al sv wr ∧ l.length - j + 1 ≤ n ∧ Hid (attrsL n l L.A L.T al j = attrsL (l.length + 1) l L.A L.T [] k1))
    case atStart =>
      have hb := (Below.refl w2.heap.size w2).alloc (Nat.le_refl _) (.cells #[.int .i64 1, .int .i64 lt0, .string (sb nm), .string ⟨#[]⟩, .slice none 0 0] 35)
      exact ⟨k1, [], .slice none 0 0, ⟨(HF2.out.1.below hb).1, HF2.out.2.trans (HF2.out.1.below hb).2, heap_alloc_new _ _, World.ownsRow_nil _ _ _ _, fun a ha => (by cases ha), by simp; omega, HF2.out.2.size⟩, by omega, rfl⟩
    case round =>
      obtain ⟨j, al, sv, ⟨hF, hfr, hE, hAR, hAO, hAl, hEs⟩, hn, HF⟩ := hrel
      obtain ⟨n, rfl⟩ : ∃ n, gk = n + 1 := ⟨gk - 1, by omega⟩
      obtain ⟨sa, scap, hsv⟩ := hAR.len
      subst hsv
      have hjl := hF.inn.kl
      have hll := hF.inn.ll
      have hPE : P ≠ w2.heap.size := by have := HVB.out.p; omega
      have HFu : Hid _ := hF
      have HFR : Hid _ := hfr
      have HE : Hid _ := hE
      have HAR : Hid _ := hAR
      have HAO : Hid _ := hAO
      clear hF hfr hE hAR hAO
      rcases hb : blanksS l j with ⟨gap, j1⟩ | ⟨p, er⟩
      · have HB : Hid _ := hb
        have hjj := ((M.blanks_gd hjl).use hb).1
        clear hb
        cases hokj : okl l j1
        · have HC : Hid (X = .bad j1 2) := by rw [HX3.out, ← HF.out, attrsL, HB.out, bind_ok, peekS_f hokj]; exact rfl
          go_wp2_with (first | (go_at_call 51; refine (scan_ok (blanks_s HFu.out.inn) HB.out).mono ?_; rintro e wb ⟨rfl, hgb, hib⟩; have c1b := hib.rd; have Eb := Bk.kept HE.out (by decide) HFu.out.inn.ps hgb; have e4b : wb.cell? ⟨w2.heap.size, 4, none⟩ = some (.slice sa al.length scap) := Bk.cell (i := 4) Eb; have c5b : wb.cell? ⟨P, 5, none⟩ = some (.int .i64 L.A) := (hib.ps.cell 5).trans (by rw [← HFu.out.la]; exact rfl); have HEb : Hid _ := Eb; clear Eb; have frb := HFR.out.trans (Fr.scan (k := (j1 : Int)) hgb)) | (go_at_call 40; refine (peek_f hib hokj).mono ?_; rintro e w' ⟨rfl, m3, rfl⟩))
          refine ⟨rfl, ?_⟩
          rw [HC.out]
          exact ⟨rfl, _, (hib.drewN m3).ps, rfl, frb.drewN m3⟩
        have hpos := ln_pos hokj
        by_cases h62 : lt l j1 = 62
        · have HC : Hid (X = .go (tellS { s with nodes := s.nodes + 1, k := j1 + ln l j1, op := s.op ++ [nm] } [⟨1, lt0, nm, [], al⟩])) := by rw [HX3.out, ← HF.out, attrsL, HB.out, bind_ok, peekS_t hokj, bind_ok, if_pos h62]; exact rfl
          go_wp2_with (first | (go_at_call 51; refine (scan_ok (blanks_s HFu.out.inn) HB.out).mono ?_; rintro e wb ⟨rfl, hgb, hib⟩; have c1b := hib.rd; have Eb := Bk.kept HE.out (by decide) HFu.out.inn.ps hgb; have e4b : wb.cell? ⟨w2.heap.size, 4, none⟩ = some (.slice sa al.length scap) := Bk.cell (i := 4) Eb; have c5b : wb.cell? ⟨P, 5, none⟩ = some (.int .i64 L.A) := (hib.ps.cell 5).trans (by rw [← HFu.out.la]; exact rfl); have HEb : Hid _ := Eb; clear Eb; have frb := HFR.out.trans (Fr.scan (k := (j1 : Int)) hgb)) | (go_at_call 40; refine (peek_t hib hokj).mono ?_; rintro e w' ⟨rfl, m3, rfl⟩) | (go_at_call 41; refine (take_t (hib.drewN m3) hokj).mono ?_; rintro e wt ⟨rfl, hgt, hit⟩; have Et := Bk.kept (w := wb.drewN m3) HEb.out (by decide) (hib.drewN m3).ps hgt; have e0t : wt.cell? ⟨w2.heap.size, 0, none⟩ = some (.int .i64 1) := Bk.cell (i := 0) Et; have e1t : wt.cell? ⟨w2.heap.size, 1, none⟩ = some (.int .i64 lt0) := Bk.cell (i := 1) Et; have e2t : wt.cell? ⟨w2.heap.size, 2, none⟩ = some (.string (sb nm)) := Bk.cell (i := 2) Et; have HEt : Hid _ := Et; clear Et; have frt := (frb.drewN m3).trans (Fr.scan (k := ((j1 + ln l j1 : Nat) : Int)) hgt)))
          have hF3 := ((HFu.out.scan hgb hib).drewN m3).scan hgt hit
          have hA3a : AR w2.heap.size wb (.slice sa al.length scap) al := (ky_ps HFu.out.inn.ps hgb (by decide)).own HAR.out
          have hA3 : AR w2.heap.size wt (.slice sa al.length scap) al := (ky_ps (w := wb.drewN m3) (hib.drewN m3).ps hgt (by decide)).own (show AR w2.heap.size (wb.drewN m3) (.slice sa al.length scap) al from hA3a)
          have hpf := push_full (nm := nm) (hF3.drewN 1) hdl hnmb hnml HEt.out hPE hA3
          have HPF : Hid _ := hpf
          clear hF3 hA3 hpf
          go_region_with (first | (go_at_call 75; refine Calls.mono HPF.out ?_; rintro e w6 ⟨rfl, v6, F6, f6, E6, A6⟩; have HF5 : Hid _ := And.intro F6 (And.intro f6 A6); have e0 : w6.cell? ⟨w2.heap.size, 0, none⟩ = some (.int .i64 1) := Bk.cell (i := 0) E6; have e1 : w6.cell? ⟨w2.heap.size, 1, none⟩ = some (.int .i64 lt0) := Bk.cell (i := 1) E6; have e2 : w6.cell? ⟨w2.heap.size, 2, none⟩ = some (.string (sb nm)) := Bk.cell (i := 2) E6; have e3 : w6.cell? ⟨w2.heap.size, 3, none⟩ = some (.string ⟨#[]⟩) := Bk.cell (i := 3) E6; have e4 : w6.cell? ⟨w2.heap.size, 4, none⟩ = some (.slice sa al.length scap) := Bk.cell (i := 4) E6; clear F6 f6 E6 A6))
          go_wp2_with (first | (go_at_call 76; refine (tell_one HF5.out.1 HRD.out ⟨1, lt0, nm, [], al⟩ ⟨hnmb, bd_nil, HAO.out⟩ (.slice sa al.length scap) (own_base HF5.out.2.2 (by have := HH.out.sz; omega))).mono ?_; rintro e w7 ⟨rfl, v7, F7, f7⟩; have HF7 : Hid _ := And.intro F7 f7; clear F7 f7))
          go_end0
          rw [HC.out]
          exact ⟨rfl, v7, HF7.out.1, (frt.drewN 1).trans (HF5.out.2.1.trans HF7.out.2)⟩
        have h62b : (lt l j1 == 62) = false := by simp [h62]
        by_cases h47 : lt l j1 = 47
        · have h47b : (lt l j1 == 47) = true := by simp [h47]
          have HD0 : Hid (attrsL (l.length + 1) l L.A L.T [] k1 = (signS l 62 (j1 + ln l j1)).bind fun _ k2 => .ok (al, some (j1 : Int)) k2) := by rw [← HF.out, attrsL, HB.out, bind_ok, peekS_t hokj, bind_ok, if_neg h62, if_pos h47]; exact rfl
          clear h62 h47
          rcases hs : signS l 62 (j1 + ln l j1) with ⟨_, j2⟩ | ⟨p, er⟩
          · have HS : Hid _ := hs
            clear hs
            have HC : Hid (X = .go (tellS { s with nodes := s.nodes + 1, k := j2 } [⟨1, lt0, nm, [], al⟩, ⟨2, j1, nm, [], []⟩])) := by rw [HX3.out, HD0.out, HS.out]; exact rfl
            go_wp2_with (first | (go_at_call 51; refine (scan_ok (blanks_s HFu.out.inn) HB.out).mono ?_; rintro e wb ⟨rfl, hgb, hib⟩; have c1b := hib.rd; have Eb := Bk.kept HE.out (by decide) HFu.out.inn.ps hgb; have e4b : wb.cell? ⟨w2.heap.size, 4, none⟩ = some (.slice sa al.length scap) := Bk.cell (i := 4) Eb; have c5b : wb.cell? ⟨P, 5, none⟩ = some (.int .i64 L.A) := (hib.ps.cell 5).trans (by rw [← HFu.out.la]; exact rfl); have HEb : Hid _ := Eb; clear Eb; have frb := HFR.out.trans (Fr.scan (k := (j1 : Int)) hgb)) | (go_at_call 40; refine (peek_t hib hokj).mono ?_; rintro e w' ⟨rfl, m3, rfl⟩) | (go_at_call 41; refine (take_t (hib.drewN m3) hokj).mono ?_; rintro e wt ⟨rfl, hgt, hit⟩; have Et := Bk.kept (w := wb.drewN m3) HEb.out (by decide) (hib.drewN m3).ps hgt; have e0t : wt.cell? ⟨w2.heap.size, 0, none⟩ = some (.int .i64 1) := Bk.cell (i := 0) Et; have e1t : wt.cell? ⟨w2.heap.size, 1, none⟩ = some (.int .i64 lt0) := Bk.cell (i := 1) Et; have e2t : wt.cell? ⟨w2.heap.size, 2, none⟩ = some (.string (sb nm)) := Bk.cell (i := 2) Et; have HEt : Hid _ := Et; clear Et; have frt := (frb.drewN m3).trans (Fr.scan (k := ((j1 + ln l j1 : Nat) : Int)) hgt)) | (go_at_call 56; refine (scan_ok (sign_s 62 hit) HS.out).mono ?_; rintro e ws ⟨rfl, hgs, his⟩; have Es := Bk.kept HEt.out (by decide) hit.ps hgs; have e0 : ws.cell? ⟨w2.heap.size, 0, none⟩ = some (.int .i64 1) := Bk.cell (i := 0) Es; have e1 : ws.cell? ⟨w2.heap.size, 1, none⟩ = some (.int .i64 lt0) := Bk.cell (i := 1) Es; have e2 : ws.cell? ⟨w2.heap.size, 2, none⟩ = some (.string (sb nm)) := Bk.cell (i := 2) Es; have e3 : ws.cell? ⟨w2.heap.size, 3, none⟩ = some (.string ⟨#[]⟩) := Bk.cell (i := 3) Es; have e4 : ws.cell? ⟨w2.heap.size, 4, none⟩ = some (.slice sa al.length scap) := Bk.cell (i := 4) Es; clear Es; have hA3a : AR w2.heap.size wb (.slice sa al.length scap) al := (ky_ps HFu.out.inn.ps hgb (by decide)).own HAR.out; have hA3 : AR w2.heap.size wt (.slice sa al.length scap) al := (ky_ps (w := wb.drewN m3) (hib.drewN m3).ps hgt (by decide)).own (show AR w2.heap.size (wb.drewN m3) (.slice sa al.length scap) al from hA3a); have HARs : Hid (AR w2.heap.size ws (.slice sa al.length scap) al) := (ky_ps hit.ps hgs (by decide)).own hA3; clear hA3a hA3))
            have HF6 : Hid _ := And.intro ((((HFu.out.scan hgb hib).drewN m3).scan hgt hit).scan hgs his) (HARs.out)
            go_wp2_with (first | (go_at_call 76; refine (tell_two HF6.out.1 HRD.out ⟨1, lt0, nm, [], al⟩ ⟨2, j1, nm, [], []⟩ ⟨hnmb, bd_nil, HAO.out⟩ ⟨hnmb, bd_nil, fun a ha => by cases ha⟩ (.slice sa al.length scap) (.slice none 0 0) (own_base HF6.out.2 (by have := HH.out.sz; omega)) (World.ownsRow_nil _ _ _ _)).mono ?_; rintro e w7 ⟨rfl, v7, F7, f7⟩; have HF7 : Hid _ := And.intro F7 f7; clear F7 f7))
            go_end0
            rw [HC.out]
            exact ⟨rfl, v7, HF7.out.1, (frt.trans (Fr.scan (k := (j2 : Int)) hgs)).trans HF7.out.2⟩
          · have HS : Hid _ := hs
            clear hs
            have HC : Hid (X = .bad p er) := by rw [HX3.out, HD0.out, HS.out]; exact rfl
            go_wp2_with (first | (go_at_call 51; refine (scan_ok (blanks_s HFu.out.inn) HB.out).mono ?_; rintro e wb ⟨rfl, hgb, hib⟩; have c1b := hib.rd; have Eb := Bk.kept HE.out (by decide) HFu.out.inn.ps hgb; have e4b : wb.cell? ⟨w2.heap.size, 4, none⟩ = some (.slice sa al.length scap) := Bk.cell (i := 4) Eb; have c5b : wb.cell? ⟨P, 5, none⟩ = some (.int .i64 L.A) := (hib.ps.cell 5).trans (by rw [← HFu.out.la]; exact rfl); have HEb : Hid _ := Eb; clear Eb; have frb := HFR.out.trans (Fr.scan (k := (j1 : Int)) hgb)) | (go_at_call 40; refine (peek_t hib hokj).mono ?_; rintro e w' ⟨rfl, m3, rfl⟩) | (go_at_call 41; refine (take_t (hib.drewN m3) hokj).mono ?_; rintro e wt ⟨rfl, hgt, hit⟩; have Et := Bk.kept (w := wb.drewN m3) HEb.out (by decide) (hib.drewN m3).ps hgt; have e0t : wt.cell? ⟨w2.heap.size, 0, none⟩ = some (.int .i64 1) := Bk.cell (i := 0) Et; have e1t : wt.cell? ⟨w2.heap.size, 1, none⟩ = some (.int .i64 lt0) := Bk.cell (i := 1) Et; have e2t : wt.cell? ⟨w2.heap.size, 2, none⟩ = some (.string (sb nm)) := Bk.cell (i := 2) Et; have HEt : Hid _ := Et; clear Et; have frt := (frb.drewN m3).trans (Fr.scan (k := ((j1 + ln l j1 : Nat) : Int)) hgt)) | (go_at_call 56; refine (scan_bad (sign_s 62 hit) HS.out).mono ?_; rintro e ws ⟨rfl, hgs, kk, hp⟩))
            refine ⟨rfl, ?_⟩
            rw [HC.out]
            exact ⟨rfl, _, hp, rfl, frt.trans (Fr.scan hgs)⟩
        have h47b : (lt l j1 == 47) = false := by simp [h47]
        by_cases hgs : gap = false ∨ isStart (lt l j1) = false
        · have HC : Hid (X = .bad j1 2) := by rw [HX3.out, ← HF.out, attrsL, HB.out, bind_ok, peekS_t hokj, bind_ok, if_neg h62, if_neg h47, if_pos hgs]; exact rfl
          clear h62 h47
          cases gap
          · clear hgs
            go_wp2_with (first | (go_at_call 51; refine (scan_ok (blanks_s HFu.out.inn) HB.out).mono ?_; rintro e wb ⟨rfl, hgb, hib⟩; have c1b := hib.rd; have Eb := Bk.kept HE.out (by decide) HFu.out.inn.ps hgb; have e4b : wb.cell? ⟨w2.heap.size, 4, none⟩ = some (.slice sa al.length scap) := Bk.cell (i := 4) Eb; have c5b : wb.cell? ⟨P, 5, none⟩ = some (.int .i64 L.A) := (hib.ps.cell 5).trans (by rw [← HFu.out.la]; exact rfl); have HEb : Hid _ := Eb; clear Eb; have frb := HFR.out.trans (Fr.scan (k := (j1 : Int)) hgb)) | (go_at_call 40; refine (peek_t hib hokj).mono ?_; rintro e w' ⟨rfl, m3, rfl⟩) | (go_at_call 74; refine (start_any _ _).mono ?_; rintro e w' ⟨rfl, rfl⟩) | (go_at_call 47; refine (fail_any _ _ _).mono ?_; rintro e w' ⟨rfl, rfl⟩))
            refine ⟨rfl, ?_⟩
            rw [HC.out]
            exact ⟨rfl, _, (hib.drewN m3).ps, rfl, frb.drewN m3⟩
          · have hs1 : isStart (lt l j1) = false := by rcases hgs with e | e; cases e; exact e
            clear hgs
            go_wp2_with (first | (go_at_call 51; refine (scan_ok (blanks_s HFu.out.inn) HB.out).mono ?_; rintro e wb ⟨rfl, hgb, hib⟩; have c1b := hib.rd; have Eb := Bk.kept HE.out (by decide) HFu.out.inn.ps hgb; have e4b : wb.cell? ⟨w2.heap.size, 4, none⟩ = some (.slice sa al.length scap) := Bk.cell (i := 4) Eb; have c5b : wb.cell? ⟨P, 5, none⟩ = some (.int .i64 L.A) := (hib.ps.cell 5).trans (by rw [← HFu.out.la]; exact rfl); have HEb : Hid _ := Eb; clear Eb; have frb := HFR.out.trans (Fr.scan (k := (j1 : Int)) hgb)) | (go_at_call 40; refine (peek_t hib hokj).mono ?_; rintro e w' ⟨rfl, m3, rfl⟩) | (go_at_call 74; refine (start_any _ _).mono ?_; rintro e w' ⟨rfl, rfl⟩) | (go_at_call 47; refine (fail_any _ _ _).mono ?_; rintro e w' ⟨rfl, rfl⟩))
            refine ⟨rfl, ?_⟩
            rw [HC.out]
            exact ⟨rfl, _, (hib.drewN m3).ps, rfl, frb.drewN m3⟩
        have hgt1 : gap = true := by cases gap; exact absurd (.inl rfl) hgs; rfl
        have hs1 : isStart (lt l j1) = true := by cases hx : isStart (lt l j1); exact absurd (.inr hx) hgs; rfl
        subst hgt1
        by_cases hA1 : (al.length : Int) = L.A
        · have HC : Hid (X = .bad j1 3) := by rw [HX3.out, ← HF.out, attrsL, HB.out, bind_ok, peekS_t hokj, bind_ok, if_neg h62, if_neg h47, if_neg hgs, if_pos hA1]; exact rfl
          have hAb : ((al.length : Int) == L.A) = true := by simp [hA1]
          clear h62 h47 hgs hA1
          go_wp2_with (first | (go_at_call 51; refine (scan_ok (blanks_s HFu.out.inn) HB.out).mono ?_; rintro e wb ⟨rfl, hgb, hib⟩; have c1b := hib.rd; have Eb := Bk.kept HE.out (by decide) HFu.out.inn.ps hgb; have e4b : wb.cell? ⟨w2.heap.size, 4, none⟩ = some (.slice sa al.length scap) := Bk.cell (i := 4) Eb; have c5b : wb.cell? ⟨P, 5, none⟩ = some (.int .i64 L.A) := (hib.ps.cell 5).trans (by rw [← HFu.out.la]; exact rfl); have HEb : Hid _ := Eb; clear Eb; have frb := HFR.out.trans (Fr.scan (k := (j1 : Int)) hgb)) | (go_at_call 40; refine (peek_t hib hokj).mono ?_; rintro e w' ⟨rfl, m3, rfl⟩) | (go_at_call 74; refine (start_any _ _).mono ?_; rintro e w' ⟨rfl, rfl⟩))
          go_quiet (fail)
          go_wp2_with (first | (go_at_call 35; refine (many_any _ _ _).mono ?_; rintro e w' ⟨rfl, rfl⟩))
          refine ⟨rfl, ?_⟩
          rw [HC.out]
          exact ⟨rfl, _, (hib.drewN 0).ps, rfl, frb.drewN _⟩
        have hAb : ((al.length : Int) == L.A) = false := by simp [hA1]
        have HD0 : Hid (attrsL (l.length + 1) l L.A L.T [] k1 = (attrS l L.T al j1).bind fun a k2 => attrsL n l L.A L.T (al ++ [a]) k2) := by rw [← HF.out, attrsL, HB.out, bind_ok, peekS_t hokj, bind_ok, if_neg h62, if_neg h47, if_neg hgs, if_neg hA1]; exact rfl
        have hA2 : (al.length : Int) + 1 ≤ L.A := by omega
        clear h62 h47 hgs hA1
        have hT4 : 0 ≤ v.t ∧ v.t ≤ 4096 := by rw [HLT.out]; omega
        have hal4 : al.length ≤ 4096 := by omega
        rcases hat : attrS l L.T al j1 with ⟨a, j2⟩ | ⟨p, er⟩
        · have HS : Hid (attrsL n l L.A L.T (al ++ [a]) j2 = attrsL (l.length + 1) l L.A L.T [] k1) := by rw [HD0.out, hat]; exact rfl
          have hao : AtOk a := attrS_ok HFu.out.inn.br.2 hat
          have HAT : Hid (attrS l v.t al j1 = .ok a j2) := by rw [HLT.out]; exact hat
          have hj2 : j1 < j2 := attr_pos hat
          have HAK : Hid _ := hao
          clear hat hao
          obtain ⟨i37, hi37, hz37, hs37, hb37⟩ := info37p
          go_wp2_with (first | (go_at_call 51; refine (scan_ok (blanks_s HFu.out.inn) HB.out).mono ?_; rintro e wb ⟨rfl, hgb, hib⟩; have c1b := hib.rd; have Eb := Bk.kept HE.out (by decide) HFu.out.inn.ps hgb; have e4b : wb.cell? ⟨w2.heap.size, 4, none⟩ = some (.slice sa al.length scap) := Bk.cell (i := 4) Eb; have c5b : wb.cell? ⟨P, 5, none⟩ = some (.int .i64 L.A) := (hib.ps.cell 5).trans (by rw [← HFu.out.la]; exact rfl); have HEb : Hid _ := Eb; clear Eb; have frb := HFR.out.trans (Fr.scan (k := (j1 : Int)) hgb)) | (go_at_call 40; refine (peek_t hib hokj).mono ?_; rintro e w' ⟨rfl, m3, rfl⟩) | (go_at_call 74; refine (start_any _ _).mono ?_; rintro e w' ⟨rfl, rfl⟩))
          go_quiet (fail)
          go_wp2_with fail
          have hA3a : AR w2.heap.size wb (.slice sa al.length scap) al := (ky_ps HFu.out.inn.ps hgb (by decide)).own HAR.out
          have HA3 : Hid _ := hA3a
          have HI : Hid _ := hib
          clear hA3a
          go_region_law (first
            | (refine step_append_lies _ rfl (.tmp 118) (.tmp 123) 33 rfl w2.heap.size 37 i37 (.agg #[.string ⟨#[]⟩, .string ⟨#[]⟩, .int .i64 0]) 3 40 Tryd.underlying33 hi37 hz37 hs37 hb37 rfl (by decide) (.slice sa al.length scap) al.length (al.flatMap atCells) (by simp [Act.eval]) (World.ownsRow.alloc HTR.out.2.2.2.1 (atO a)) ⟨wa.heap.size, 0, none⟩ 1 1 (atCells a) (by simp [Act.eval]) rfl (new_cells wa #[.string (sb a.name), .string (sb a.value), .int .i64 a.place] 37) (by intro u hu; simp [atCells] at hu; rcases hu with rfl | rfl | rfl <;> rfl) (by decide) (by unfold maxLen; omega) (by omega) hEw _ rfl ?_
               intro g4 cap4 w4 hown4 hg4 hat4 hlt4
               have c4' : w4.cell? ⟨w2.heap.size, 4, none⟩ = some (.slice sa al.length scap) := far_cell hg4 (blk_cell ((Below.refl _ _).alloc (Nat.le_refl _) (atO a)) e4a) hneE
               have f4' : w4.frozen? ⟨w2.heap.size, 4, none⟩ = false := far_froz hg4 (blk_cell ((Below.refl _ _).alloc (Nat.le_refl _) (atO a)) e4a) (blk_froz ((Below.refl _ _).alloc (Nat.le_refl _) (atO a)) e4a f4a) hneE
               have HN4 : Hid _ := And.intro hown4 hg4
               clear hown4 hg4 hat4 hlt4)
            | (go_simp; go_at_call 77; refine (scan_ok (attr_s (B := w2.heap.size) (HI.out.drewN _) hT4 (AR.drewN HA3.out _) HAO.out hal4) HAT.out).mono ?_; rintro e wa ⟨rfl, hga, hia⟩; have Ea := Bk.kept (w := wb) HEb.out (by decide) HI.out.ps (grownBy_trans (gd _) hga); have HTR : Hid (TagR B P w2.heap.size w v l L s lt0 nm j2 al (.slice sa al.length scap) wa) := ⟨((HFu.out.scan hgb HI.out).drewN _).scan hga hia, (frb.drewN _).trans (Fr.scan (k := (j2 : Int)) hga), Ea, AR.kept' (w := wb) HA3.out HI.out.ps (grownBy_trans (gd _) hga), HAO.out, hAl, hEs⟩; have e4a : wa.cell? ⟨w2.heap.size, 4, none⟩ = some (.slice sa al.length scap) := Bk.cell (i := 4) Ea; have f4a : wa.frozen? ⟨w2.heap.size, 4, none⟩ = false := Bk.froz (i := 4) Ea; have hElt : w2.heap.size < wa.heap.size := (Array.getElem?_eq_some_iff.1 Ea).1; have hEne : w2.heap.size ≠ wa.heap.size := Nat.ne_of_lt hElt; have hEw : w2.heap.size ≤ (wa.alloc (atO a)).heap.size := Nat.le_trans (Nat.le_of_lt (Array.getElem?_eq_some_iff.1 Ea).1) (by simp); have hneE : (Value.slice sa al.length scap).ownBlock ≠ some w2.heap.size := fun e => own_ty HTR.out.2.2.2.1 (t := 35) (by decide) _ e _ _ Ea; clear Ea hga hia; dsimp only [atRet]))
          all_goals
            go_wp2_with fail
            go_roundg n
            case measure => omega
            case rel => exact ⟨j2, al ++ [a], _, tag_next HTR.out HRD.out HVB.out HAK.out hA2 HN4.out.1 HN4.out.2, by have hk2 : j2 ≤ l.length := HTR.out.1.inn.kl; omega, HS⟩
        · have HC : Hid (X = .bad p er) := by rw [HX3.out, HD0.out, hat]; exact rfl
          have HAT : Hid (attrS l v.t al j1 = .bad p er) := by rw [HLT.out]; exact hat
          clear hat
          go_wp2_with (first | (go_at_call 51; refine (scan_ok (blanks_s HFu.out.inn) HB.out).mono ?_; rintro e wb ⟨rfl, hgb, hib⟩; have c1b := hib.rd; have Eb := Bk.kept HE.out (by decide) HFu.out.inn.ps hgb; have e4b : wb.cell? ⟨w2.heap.size, 4, none⟩ = some (.slice sa al.length scap) := Bk.cell (i := 4) Eb; have c5b : wb.cell? ⟨P, 5, none⟩ = some (.int .i64 L.A) := (hib.ps.cell 5).trans (by rw [← HFu.out.la]; exact rfl); have HEb : Hid _ := Eb; clear Eb; have frb := HFR.out.trans (Fr.scan (k := (j1 : Int)) hgb)) | (go_at_call 40; refine (peek_t hib hokj).mono ?_; rintro e w' ⟨rfl, m3, rfl⟩) | (go_at_call 74; refine (start_any _ _).mono ?_; rintro e w' ⟨rfl, rfl⟩))
          go_quiet (fail)
          go_wp2_with fail
          have hA3a : AR w2.heap.size wb (.slice sa al.length scap) al := (ky_ps HFu.out.inn.ps hgb (by decide)).own HAR.out
          have HA3 : Hid _ := hA3a
          have HI : Hid _ := hib
          clear hA3a
          go_region_with (first
            | (go_at_call 77; refine (scan_bad (attr_s (B := w2.heap.size) (HI.out.drewN _) hT4 (AR.drewN HA3.out _) HAO.out hal4) HAT.out).mono ?_; rintro e wa ⟨rfl, hga, kk, hp⟩; refine dmy wa ⟨rfl, ?_⟩ ?_; rw [HC.out]; exact ⟨rfl, _, hp, rfl, (frb.drewN _).trans (Fr.scan hga)⟩))
          all_goals trivial
      · have HC : Hid (X = .bad p er) := by rw [HX3.out, ← HF.out, attrsL, hb]; exact rfl
        have HB : Hid _ := hb
        clear hb
        go_wp2_with (first | (go_at_call 51; refine (scan_bad (blanks_s HFu.out.inn) HB.out).mono ?_; rintro e wb ⟨rfl, hgb, kk, hp⟩))
        refine ⟨rfl, ?_⟩
        rw [HC.out]
        exact ⟨rfl, _, hp, rfl, HFR.out.trans (Fr.scan hgb)⟩
  · have HC : Hid (X = .bad p er) := by rw [HX2.out, hn]; exact rfl
    rw [← h.lt'] at hn
    clear h
    go_enter Tryd.func60, Tryd.ntmps60
    go_wp2_with (first | (go_at_call 40; refine (peek_t HH.out.inn hok).mono ?_; rintro e w' ⟨rfl, m, rfl⟩) | (go_at_call 74; refine (start_any _ _).mono ?_; rintro e w' ⟨rfl, rfl⟩))
    go_quiet (fail)
    go_wp2_with (first | (go_at_call 72; refine (scan_bad (name_s (HQ.out _).1.inn hT') hn).mono ?_; rintro e w2 ⟨rfl, hg2, kk, hp⟩))
    refine ⟨rfl, ?_⟩
    rw [HC.out]
    exact ⟨rfl, _, hp, rfl, (((Fr.refl P w v).drewN _).trans (HQ.out _).2).trans (Fr.scan hg2)⟩
end Go.Proofs.YtjcgnbmpnaapdaaDoor
