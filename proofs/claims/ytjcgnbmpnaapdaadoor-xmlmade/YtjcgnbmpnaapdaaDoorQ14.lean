/- The closure that catches a fault. -/
import Derived.Test.YtjcgnbmpnaapdaaDoorQ12
import Derived.Defers
import Derived.Recover
namespace Go.Proofs.YtjcgnbmpnaapdaaDoor
open Go.RowKit
set_option linter.unusedVariables false

theorem catch_idle (a b c : Addr) (w : World) :
    CallsD Tryd.prog 30 #[.pointer (some a), .pointer (some b), .pointer (some c)] .returning w fun e u' w' => e = .returned (.tuple #[]) ∧ u' = .returning ∧ w' = w := by
  refine callsD_of_wpS Tryd.func30 rfl fun c₀ cs hu => ?_
  apply wpS_seq
  apply wpS_region
  simp [wpOpsS, go_sem, recoverD, hu, Tryd.ntmps30, Exit.thenS]
  refine wpS_of_wp ?_
  go_wp2
  cases c₀
  simp_all [bodyPostS, results, Tryd.results30]
abbrev zEv : Array Value := #[.int .i64 0, .int .i64 0, .string ⟨#[]⟩, .string ⟨#[]⟩, .slice none 0 0]
/-- What the closure leaves. -/
structure Caught (P E K : Nat) (place err : Int) (v : PV) (w w' : World) : Prop where
  ps : PS w' P { v with over := true, fat := place, ferr := err }
  e : w'.heap[E]? = some (.cells zEv 35 (0, 0))
  k : w'.heap[K]? = some (.cells #[.bool false] 4 (0, 0))
  os : w'.os = w.os
  tape : w'.tape = w.tape
  output : w'.output = w.output
  size : w.heap.size ≤ w'.heap.size
  blk : ∀ i, i ≠ P → i ≠ E → i ≠ K → w'.heap[i]? = w.heap[i]?
theorem hset {w : World} {b j i : Nat} {x : Value} (h : i ≠ b) : (w.setCell ⟨b, j, none⟩ x).heap[i]? = w.heap[i]? := Below.heap_setCell _ _ _ _ (by intro e; exact h (by rw [e]))
structure CW (P E K : Nat) (v : PV) (ce ck : Array Value) (w w' : World) : Prop where
  ps : PS w' P v
  e : w'.heap[E]? = some (.cells ce 35 (0, 0))
  k : w'.heap[K]? = some (.cells ck 4 (0, 0))
  os : w'.os = w.os
  tape : w'.tape = w.tape
  output : w'.output = w.output
  size : w.heap.size ≤ w'.heap.size
  blk : ∀ i, i ≠ P → i ≠ E → i ≠ K → w'.heap[i]? = w.heap[i]?
theorem CW.p {P E K i : Nat} {v v' : PV} {ce ck : Array Value} {w w' : World} {x : Value} (h : CW P E K v ce ck w w') (hPE : P ≠ E) (hPK : P ≠ K) (hx : v.cells.setIfInBounds i x = v'.cells) : CW P E K v' ce ck w (w'.setCell ⟨P, i, none⟩ x) :=
  ⟨h.ps.set i x hx, (hset hPE.symm).trans h.e, (hset hPK.symm).trans h.k, h.os, h.tape, h.output, (Nat.le_trans h.size (by simp [World.setCell])), fun j h1 h2 h3 => (hset h1).trans (h.blk j h1 h2 h3)⟩
theorem CW.ev {P E K i : Nat} {v : PV} {ce ce' ck : Array Value} {w w' : World} {x : Value} (h : CW P E K v ce ck w w') (hPE : P ≠ E) (hEK : E ≠ K) (hx : ce.setIfInBounds i x = ce') : CW P E K v ce' ck w (w'.setCell ⟨E, i, none⟩ x) :=
  ⟨(hset hPE).trans h.ps, (by rw [← hx]; exact Bk.set (i := i) h.e x), (hset hEK.symm).trans h.k, h.os, h.tape, h.output, (Nat.le_trans h.size (by simp [World.setCell])), fun j h1 h2 h3 => (hset h2).trans (h.blk j h1 h2 h3)⟩
theorem CW.kv {P E K i : Nat} {v : PV} {ce ck ck' : Array Value} {w w' : World} {x : Value} (h : CW P E K v ce ck w w') (hPK : P ≠ K) (hEK : E ≠ K) (hx : ck.setIfInBounds i x = ck') : CW P E K v ce ck' w (w'.setCell ⟨K, i, none⟩ x) :=
  ⟨(hset hPK).trans h.ps, (hset hEK).trans h.e, (by rw [← hx]; exact Bk.set (i := i) h.k x), h.os, h.tape, h.output, (Nat.le_trans h.size (by simp [World.setCell])), fun j h1 h2 h3 => (hset h3).trans (h.blk j h1 h2 h3)⟩
theorem CW.drew {P E K : Nat} {v : PV} {ce ck : Array Value} {w w' : World} (h : CW P E K v ce ck w w') : CW P E K v ce ck w w'.drew := ⟨h.ps, h.e, h.k, h.os, h.tape, h.output, h.size, h.blk⟩
theorem CW.caught {P E K : Nat} {place err : Int} {v : PV} {w w' : World} (h : CW P E K { v with over := true, fat := place, ferr := err } zEv #[.bool false] w w') : Caught P E K place err v w w' := ⟨h.ps, h.e, h.k, h.os, h.tape, h.output, h.size, h.blk⟩
theorem caught_w {E K P : Nat} {place err : Int} {w : World} {v : PV} {x0 x1 x2 x3 x4 : Value} {bk : Bool} (hp : PS w P v) (hE : w.heap[E]? = some (.cells #[x0, x1, x2, x3, x4] 35 (0, 0))) (hK : w.heap[K]? = some (.cells #[.bool bk] 4 (0, 0))) (hPE : P ≠ E) (hPK : P ≠ K) (hEK : E ≠ K) :
    Caught P E K place err v w (((((((((w.setCell ⟨P, 18, none⟩ (.int .i64 place)).setCell ⟨P, 19, none⟩ (.int .i64 err)).setCell ⟨P, 17, none⟩ (.bool true)).setCell ⟨E, 0, none⟩ (.int .i64 0)).setCell ⟨E, 1, none⟩ (.int .i64 0)).setCell ⟨E, 2, none⟩ (.string ⟨#[]⟩)).setCell ⟨E, 3, none⟩ (.string ⟨#[]⟩)).setCell ⟨E, 4, none⟩ (.slice none 0 0)).setCell ⟨K, 0, none⟩ (.bool false)).drew := by
  have h0 : CW P E K v #[x0, x1, x2, x3, x4] #[.bool bk] w w := ⟨hp, hE, hK, rfl, rfl, rfl, Nat.le_refl _, fun _ _ _ _ => rfl⟩
  have h1 := h0.p (i := 18) (v' := { v with fat := place }) (x := .int .i64 place) hPE hPK rfl
  have h2 := h1.p (i := 19) (v' := { v with fat := place, ferr := err }) (x := .int .i64 err) hPE hPK rfl
  have h3 := h2.p (i := 17) (v' := { v with over := true, fat := place, ferr := err }) (x := .bool true) hPE hPK rfl
  have h4 := h3.ev (i := 0) (x := .int .i64 0) hPE hEK rfl
  have h5 := h4.ev (i := 1) (x := .int .i64 0) hPE hEK rfl
  have h6 := h5.ev (i := 2) (x := .string ⟨#[]⟩) hPE hEK rfl
  have h7 := h6.ev (i := 3) (x := .string ⟨#[]⟩) hPE hEK rfl
  have h8 := h7.ev (i := 4) (ce' := zEv) (x := .slice none 0 0) hPE hEK rfl
  have h9 := h8.kv (i := 0) (ck' := #[.bool false]) (x := .bool false) hPK hEK rfl
  exact h9.drew.caught
set_option maxHeartbeats 1600000 in
theorem catch_panic {A E K P : Nat} {place err : Int} {w : World} {v : PV} {x0 x1 x2 x3 x4 : Value} {bk : Bool} (hA : w.cell? ⟨A, 0, none⟩ = some (pp P)) (hp : PS w P v)
    (hE : w.heap[E]? = some (.cells #[x0, x1, x2, x3, x4] 35 (0, 0))) (hK : w.heap[K]? = some (.cells #[.bool bk] 4 (0, 0))) (hAP : A ≠ P) (hAE : A ≠ E) (hAK : A ≠ K) (hPE : P ≠ E) (hPK : P ≠ K) (hEK : E ≠ K) :
    CallsD Tryd.prog 30 #[.pointer (some ⟨A, 0, none⟩), .pointer (some ⟨E, 0, none⟩), .pointer (some ⟨K, 0, none⟩)] (.panicking (flt place err)) w fun e u' w' =>
      e = .returned (.tuple #[]) ∧ u' = .panicking [{ v := .iface 79 (.agg #[.int .i64 place, .int .i64 err]), recovered := true }] ∧ Caught P E K place err v w w' := by
  have c17 : w.cell? ⟨P, 17, none⟩ = some (.bool v.over) := hp.cell 17
  have c18 : w.cell? ⟨P, 18, none⟩ = some (.int .i64 v.fat) := hp.cell 18
  have c19 : w.cell? ⟨P, 19, none⟩ = some (.int .i64 v.ferr) := hp.cell 19
  have f17 := hp.froz 17
  have f18 := hp.froz 18
  have f19 := hp.froz 19
  have e0 : w.cell? ⟨E, 0, none⟩ = some x0 := Bk.cell (i := 0) hE
  have e1 : w.cell? ⟨E, 1, none⟩ = some x1 := Bk.cell (i := 1) hE
  have e2 : w.cell? ⟨E, 2, none⟩ = some x2 := Bk.cell (i := 2) hE
  have e3 : w.cell? ⟨E, 3, none⟩ = some x3 := Bk.cell (i := 3) hE
  have e4 : w.cell? ⟨E, 4, none⟩ = some x4 := Bk.cell (i := 4) hE
  have g0 := Bk.froz (i := 0) hE
  have g1 := Bk.froz (i := 1) hE
  have g2 := Bk.froz (i := 2) hE
  have g3 := Bk.froz (i := 3) hE
  have g4 := Bk.froz (i := 4) hE
  have k0 : w.cell? ⟨K, 0, none⟩ = some (.bool bk) := Bk.cell (i := 0) hK
  have kf := Bk.froz (i := 0) hK
  have HP : Hid _ := hp
  have HE : Hid _ := hE
  have HK : Hid _ := hK
  clear hp hE hK
  have hta : ∀ w : World, (Instr.typeAssert (.iface 79 (.agg #[.int .i64 place, .int .i64 err])) 20 79 false).run Tryd.prog w = .ok (.agg #[.int .i64 place, .int .i64 err]) w := fun w => by kernel_rfl
  unfold flt
  refine callsD_of_wpS Tryd.func30 rfl fun c₀ cs hu => ?_
  apply wpS_seq
  apply wpS_region
  simp [wpOpsS, go_sem, recoverD, hu, Tryd.ntmps30, Exit.thenS, Array.replicate, List.replicate]
  refine wpS_of_wp ?_
  go_wp2
  go_region
  all_goals
    go_wp2
  simp [bodyPostS, results, Tryd.results30]
  exact caught_w HP.out HE.out HK.out hPE hPK hEK
end Go.Proofs.YtjcgnbmpnaapdaaDoor
namespace Go.Proofs.YtjcgnbmpnaapdaaDoor
open Go.RowKit
set_option linter.unusedVariables false

def CntP (P : Nat) (v : PV) (w w' : World) : Prop := ∃ d m, w.grownBy w' (some P) ∧ PS w' P { v with depth := d, most := m } ∧ w.heap.size = w'.heap.size
set_option maxHeartbeats 1600000 in
theorem count_s {P : Nat} {w : World} {v : PV} {k : Int} (h : PS w P v) : Calls Tryd.prog 32 #[pp P, .int .i64 k] w fun e w' => e = .returned (.tuple #[]) ∧ CntP P v w w' := by
  have c15 : w.cell? ⟨P, 15, none⟩ = some (.int .i64 v.depth) := h.cell 15
  have c16 : w.cell? ⟨P, 16, none⟩ = some (.int .i64 v.most) := h.cell 16
  have f15 := h.froz 15
  have f16 := h.froz 16
  have HH : Hid _ := h
  clear h
  by_cases h1 : k = 1
  · subst h1
    have hs : ∀ x : Int, PS (w.setCell ⟨P, 15, none⟩ (.int .i64 x)) P { v with depth := x } := fun x => PS.set (w := w) (v := v) HH.out 15 _ rfl
    have hs2 : ∀ x y : Int, PS ((w.setCell ⟨P, 15, none⟩ (.int .i64 x)).setCell ⟨P, 16, none⟩ (.int .i64 y)) P { v with depth := x, most := y } := fun x y => PS.set (hs x) 16 _ rfl
    have HS : Hid _ := hs2
    clear hs hs2
    go_enter Tryd.func32, Tryd.ntmps32
    go_wp2
    go_region
    all_goals go_wp2
    all_goals
      go_end0
      exact ⟨rfl, _, _, grownBy_trans (grownBy_trans (grownBy_set _ _ _ _) (grownBy_set _ _ _ _)) (grownBy_drewN _ 1 _), HS.out _ _, by simp [World.setCell]⟩
  · have h1b : (k == 1) = false := by simp [h1]
    by_cases h2 : k = 2
    · subst h2
      have hs : ∀ x : Int, PS (w.setCell ⟨P, 15, none⟩ (.int .i64 x)) P { v with depth := x } := fun x => PS.set (w := w) (v := v) HH.out 15 _ rfl
      have HS : Hid _ := hs
      clear hs h1 h1b
      go_enter Tryd.func32, Tryd.ntmps32
      go_wp2
      go_end0
      exact ⟨rfl, _, v.most, grownBy_set _ _ _ _, HS.out _, by simp [World.setCell]⟩
    · have h2b : (k == 2) = false := by simp [h2]
      clear h1 h2
      go_enter Tryd.func32, Tryd.ntmps32
      go_wp2
      go_end0
      exact ⟨rfl, v.depth, v.most, World.grownBy.refl _ _, HH.out, rfl⟩
theorem Full.dm {B P : Nat} {w w' : World} {v : PV} {l : Bs} {L : Lm} {s : S} {d m : Int} (h : Full B P w v l L s) (hg : w.grownBy w' (some P)) (hp : PS w' P { v with depth := d, most := m }) : Full B P w' { v with depth := d, most := m } l L s ∧ Fr P w w' v { v with depth := d, most := m } := by
  have hk : ∀ {t : TypeId}, t ≠ 81 → Ky t w w' := fun ht => ky_ps h.inn.ps hg ht
  obtain ⟨xs, h1, h2⟩ := h.rd
  refine ⟨⟨⟨hp, h.inn.br.kept h.inn.ps hg, h.inn.ke, h.inn.kl, h.inn.ll⟩, h.pb, h.gb, Nat.le_trans h.sz hg.size, h.ld, h.lN, h.la, h.lt', h.bD, h.bA, h.bT, h.lg, (hk (by decide)).own h.op, h.opl, h.nd, h.bg, h.ta, (hk (by decide)).own h.to, h.tb, h.tl, ⟨xs, (hk (by decide)).rr h1, EvC.ky (hk (by decide)) h2⟩, h.rl, h.ov, h.fa, h.fe, h.bN, h.nb, h.ob⟩, ?_⟩
  exact ⟨hg.os, hg.tape, hg.output, hg.size, fun k hk1 n1 _ _ _ => hg.block k hk1 (by simpa using n1), fun _ e => .inl e, fun _ e => .inl e, fun _ e => .inl e⟩
theorem CW.refl {P E K : Nat} {v : PV} {ce ck : Array Value} {w : World} (hp : PS w P v) (hE : w.heap[E]? = some (.cells ce 35 (0, 0))) (hK : w.heap[K]? = some (.cells ck 4 (0, 0))) : CW P E K v ce ck w w := ⟨hp, hE, hK, rfl, rfl, rfl, Nat.le_refl _, fun _ _ _ _ => rfl⟩
theorem Fr.cw {P E K N : Nat} {w w3 wr w' : World} {v v1 v' : PV} {ce ck : Array Value} (hb : Below w.heap.size w w3) (hf : Fr P w3 wr v v1) (h : CW P E K v' ce ck wr w') (hN : N = w.heap.size) (hE : N ≤ E) (hK : N ≤ K) (ht : v'.tout = v1.tout) (hr : v'.ready.ownBlock = v1.ready.ownBlock) (ho : v'.op = v1.op) : Fr P w w' v v' := by
  have hs3 := hb.size
  refine ⟨h.os.trans (hf.os.trans hb.os), h.tape.trans (hf.tape.trans hb.tape), h.output.trans (hf.output.trans hb.output), Nat.le_trans hb.size (Nat.le_trans hf.size h.size), ?_, ?_, ?_, ?_⟩
  · intro k hk n1 n2 n3 n4
    rw [h.blk k n1 (by omega) (by omega), hf.blk k (by omega) n1 n2 n3 n4, hb.block k hk]
  · intro k e; rw [ht] at e; rcases hf.nt k e with x | x
    · exact .inl x
    · right; omega
  · intro k e; rw [hr] at e; rcases hf.nr k e with x | x
    · exact .inl x
    · right; omega
  · intro k e; rw [ho] at e; rcases hf.no k e with x | x
    · exact .inl x
    · right; omega
theorem CW.grown {P E K : Nat} {v v' : PV} {ce ck : Array Value} {w w' w'' : World} (h : CW P E K v ce ck w w') (hPE : P ≠ E) (hPK : P ≠ K) (hg : w'.grownBy w'' (some P)) (hp : PS w'' P v') (hsz : w'.heap.size = w''.heap.size) : CW P E K v' ce ck w w'' :=
  ⟨hp, (hg.block E (Array.getElem?_eq_some_iff.1 h.e).1 (by simpa using hPE.symm)).trans h.e, (hg.block K (Array.getElem?_eq_some_iff.1 h.k).1 (by simpa using hPK.symm)).trans h.k, hg.os.trans h.os, hg.tape.trans h.tape, hg.output.trans h.output, Nat.le_trans h.size hg.size,
    fun i h1 h2 h3 => by
      by_cases hi : i < w'.heap.size
      · exact (hg.block i hi (by simpa using h1)).trans (h.blk i h1 h2 h3)
      · rw [Array.getElem?_eq_none (by omega), ← h.blk i h1 h2 h3, Array.getElem?_eq_none (by omega)]⟩
theorem Full.ext {B P E K : Nat} {w w' : World} {v : PV} {l : Bs} {L : Lm} {s : S} (h : Full B P w v l L s) (hs : w.heap.size ≤ w'.heap.size) (hb : ∀ i, i < w.heap.size → i ≠ E → i ≠ K → w'.heap[i]? = w.heap[i]?) (hE : ∃ c, w.heap[E]? = some (.cells c 35 (0, 0))) (hK : ∃ c, w.heap[K]? = some (.cells c 4 (0, 0))) (hr : ∀ g, v.ready.ownBlock = some g → g ≠ E) :
    Full B P w' v l L s ∧ Ky 37 w w' := by
  obtain ⟨cE, hE⟩ := hE
  obtain ⟨cK, hK⟩ := hK
  have hk : ∀ {t : TypeId}, t ≠ 35 → t ≠ 4 → Ky t w w' := by
    intro t h1 h2 k c f hh
    rw [hb k (Array.getElem?_eq_some_iff.1 hh).1]
    · exact hh
    · rintro rfl; rw [hE] at hh; simp at hh; exact h1 hh.2.1.symm
    · rintro rfl; rw [hK] at hh; simp at hh; exact h2 hh.2.1.symm
  obtain ⟨xs, h1, h2⟩ := h.rd
  have hrr : RR B w' v.ready s.ready.length xs := by
    refine rr_blk h1 ?_
    intro g e
    refine hb g (h1.lt g e).2 (hr g e) ?_
    rintro rfl
    exact rr_ty h1 (t := 4) (by decide) g e _ _ hK
  refine ⟨⟨h.inn.ky (hk (by decide) (by decide)) (hk (by decide) (by decide)), h.pb, h.gb, Nat.le_trans h.sz hs, h.ld, h.lN, h.la, h.lt', h.bD, h.bA, h.bT, h.lg, (hk (by decide) (by decide)).own h.op, h.opl, h.nd, h.bg, h.ta, (hk (by decide) (by decide)).own h.to, h.tb, h.tl, ⟨xs, hrr, EvC.ky (hk (by decide) (by decide)) h2⟩, h.rl, h.ov, h.fa, h.fe, h.bN, h.nb, h.ob⟩, hk (by decide) (by decide)⟩
theorem RR.tail {B n g off cap : Nat} {w : World} {ys xs : List Value} (h : RR B w (.slice (some ⟨g, off, none⟩) (n + 1) cap) (n + 1) (xs ++ ys)) (hx : xs.length = 5) :
    RR B w (.slice (if cap = 1 then some ⟨g, off, none⟩ else some ⟨g, off + 5, none⟩) n (cap - 1)) n ys := by
  rcases h with ⟨h0, _⟩ | ⟨g', off', cap', hv, hB, ⟨cur, hh, hs⟩, h1, h2, h3, h4⟩
  · cases h0
  · simp at hv
    obtain ⟨⟨rfl, rfl⟩, rfl⟩ := hv
    simp at h3
    by_cases hc : cap = 1
    · subst hc
      have hn : n = 0 := by omega
      subst hn
      have hy : ys = [] := List.eq_nil_of_length_eq_zero (by omega)
      rw [if_pos rfl, hy]
      exact .inr ⟨g, off, 0, rfl, hB, ⟨cur, hh, by omega⟩, by omega, by omega, rfl, fun j hj => by omega⟩
    · rw [if_neg hc]
      refine .inr ⟨g, off + 5, cap - 1, rfl, hB, ⟨cur, hh, by omega⟩, by omega, by omega, by omega, fun j hj => ?_⟩
      have := h4 (5 + j) (by omega)
      rw [List.getElem?_append_right (by omega)] at this
      rw [Nat.add_assoc, this]
      congr 1
      omega
end Go.Proofs.YtjcgnbmpnaapdaaDoor
namespace Go.Proofs.YtjcgnbmpnaapdaaDoor
open Go.RowKit
set_option linter.unusedVariables false

def evV (e : Ev) (sv : Value) : Value := .agg #[.int .i64 e.kind, .int .i64 e.place, .string (sb e.name), .string (sb e.text), sv]
def NxP (B P : Nat) (w : World) (v : PV) (l : Bs) (L : Lm) (x : Nx) (r : Ending) (w' : World) : Prop :=
  match x with
  | .ev e s' => ∃ sv v', r = .returned (.tuple #[evV e sv, .bool true]) ∧ AR B w' sv e.attrs ∧ EvOk e ∧ Full B P w' v' l L s' ∧ Fr P w w' v v'
  | .fin p er => r = .returned (.tuple #[.agg zEv, .bool false]) ∧ ∃ v', PS w' P v' ∧ v'.fat = p ∧ v'.ferr = er ∧ Fr P w w' v v'
theorem RR.form {B n : Nat} {w : World} {v : Value} {xs : List Value} (h : RR B w v n xs) : ∃ a cap, v = .slice a n cap ∧ n ≤ cap ∧ cap ≤ maxLen := by
  rcases h with ⟨rfl, rfl, _⟩ | ⟨g, off, cap, rfl, _, _, h1, h2, _⟩
  · exact ⟨none, 0, rfl, Nat.le_refl _, by unfold maxLen; omega⟩
  · exact ⟨_, cap, rfl, h1, h2⟩
abbrev w3a (w : World) (P : Nat) : World := ((w.alloc (.cells #[pp P] 64)).alloc (.cells zEv 35)).alloc (.cells #[.bool false] 4)
/-- Next's own three variables. -/
structure Own (P N : Nat) (w : World) : Prop where
  a : w.heap[N]? = some (.cells #[pp P] 64 (0, 0))
  e : w.heap[N + 1]? = some (.cells zEv 35 (0, 0))
  k : w.heap[N + 1 + 1]? = some (.cells #[.bool false] 4 (0, 0))
theorem own_new (w : World) (P : Nat) : Own P w.heap.size (w3a w P) := by
  have h1 := heap_alloc_new w (.cells #[pp P] 64)
  have h2 := heap_alloc_new (w.alloc (.cells #[pp P] 64)) (.cells zEv 35)
  have h3 := heap_alloc_new ((w.alloc (.cells #[pp P] 64)).alloc (.cells zEv 35)) (.cells #[.bool false] 4)
  have e1 : (w.alloc (.cells #[pp P] 64)).heap.size = w.heap.size + 1 := by simp
  have e2 : ((w.alloc (.cells #[pp P] 64)).alloc (.cells zEv 35)).heap.size = w.heap.size + 1 + 1 := by simp
  rw [e1] at h2
  rw [e2] at h3
  refine ⟨?_, ?_, h3⟩
  · rw [Below.heap_alloc _ _ _ (by simp; omega), Below.heap_alloc _ _ _ (by simp)]; exact h1
  · rw [Below.heap_alloc _ _ _ (by simp)]; exact h2
theorem Own.fr {P N : Nat} {w w' : World} {v v' : PV} (h : Own P N w) (hvb : VB P N v) (hf : Fr P w w' v v') : Own P N w' := by
  have hlt : N + 1 + 1 < w.heap.size := (Array.getElem?_eq_some_iff.1 h.k).1
  have k : ∀ i, N ≤ i → i < w.heap.size → w'.heap[i]? = w.heap[i]? := by
    intro i hi h2
    refine hf.blk i h2 ?_ ?_ ?_ ?_
    · have := hvb.p; omega
    · intro e; have := hvb.t i e.symm; omega
    · intro e; have := hvb.r i e.symm; omega
    · intro e; have := hvb.o i e.symm; omega
  exact ⟨(k N (Nat.le_refl _) (by omega)).trans h.a, (k (N + 1) (by omega) (by omega)).trans h.e, (k (N + 1 + 1) (by omega) hlt).trans h.k⟩
set_option maxHeartbeats 3200000 in
theorem next_s {B P : Nat} {w : World} {v : PV} {l : Bs} {L : Lm} {s : S} (h : Full B P w v l L s) (hJ : M.J l s) (hP : P ≠ 0) (ht : Tab w) :
    Calls Tryd.prog 24 #[pp P] w (NxP B P w v l L (nextS (l.length + 2) l L s)) := by
  have hmf : ∀ (fn : Fn) (first cap : Array Value) (w : World), (Instr.makeFunc fn first cap).run Tryd.prog w = .ok (.func fn first cap) w := fun _ _ _ _ => rfl
  obtain ⟨X, hX⟩ : ∃ X, X = nextS (l.length + 2) l L s := ⟨_, rfl⟩
  rw [← hX]
  have HX : Hid _ := hX
  clear hX
  have hb3 : Below w.heap.size w (w3a w P) := (((Below.refl _ _).alloc (Nat.le_refl _) _).alloc (by simp) _).alloc (by simp; omega) _
  have hO := own_new w P
  obtain ⟨h3, f3⟩ := h.below hb3
  have HF0 : Hid _ := And.intro h3 (And.intro f3 hO)
  have HB3 : Hid _ := hb3
  have HVB : Hid _ := h.vb
  have HT : Hid _ := ht.fr h hP f3
  have HH : Hid _ := h
  have HJ : Hid _ := hJ
  clear h h3 f3 hO ht hb3 hJ
  go_enter_defers Tryd.func24, Tryd.ntmps24
  go_wp2_with fail
  go_loopg [] (l.length + 2) (fun n wr => ∃ (s1 : S) (v1 : PV), Full B P wr v1 l L s1 ∧ Fr P (w3a w P) wr v v1 ∧ M.J l s1 ∧ M.nu l s1 < n ∧ Own P w.heap.size wr ∧ Tab wr ∧ Hid (nextS n l L s1 = nextS (l.length + 2) l L s))
  case atStart => exact ⟨s, v, HF0.out.1, Fr.refl _ _ _, HJ.out, by have := M.ov1_le s; unfold M.nu; omega, HF0.out.2.2, HT.out, rfl⟩
  case round =>
    obtain ⟨s1, v1, hF, hfr, hJ1, hnu, hO, hT1, HF⟩ := hrel
    obtain ⟨n, rfl⟩ : ∃ n, gk = n + 1 := ⟨gk - 1, by omega⟩
    have cA : wr.cell? ⟨w.heap.size, 0, none⟩ = some (pp P) := Bk.cell (i := 0) hO.a
    have c14 : wr.cell? ⟨P, 14, none⟩ = some v1.ready := hF.inn.ps.cell 14
    have c17 : wr.cell? ⟨P, 17, none⟩ = some (.bool s1.over) := (hF.inn.ps.cell 17).trans (by rw [← hF.ov]; rfl)
    obtain ⟨xs, hrr, hec⟩ := hF.rd
    obtain ⟨ra, rcap, hrv, hrc, hrm⟩ := hrr.form
    rw [hrv] at c14
    have e0 : wr.cell? ⟨w.heap.size + 1, 0, none⟩ = some (.int .i64 0) := Bk.cell (i := 0) hO.e
    have e1 : wr.cell? ⟨w.heap.size + 1, 1, none⟩ = some (.int .i64 0) := Bk.cell (i := 1) hO.e
    have e2 : wr.cell? ⟨w.heap.size + 1, 2, none⟩ = some (.string ⟨#[]⟩) := Bk.cell (i := 2) hO.e
    have e3 : wr.cell? ⟨w.heap.size + 1, 3, none⟩ = some (.string ⟨#[]⟩) := Bk.cell (i := 3) hO.e
    have e4 : wr.cell? ⟨w.heap.size + 1, 4, none⟩ = some (.slice none 0 0) := Bk.cell (i := 4) hO.e
    have g0 := Bk.froz (i := 0) hO.e
    have g1 := Bk.froz (i := 1) hO.e
    have g2 := Bk.froz (i := 2) hO.e
    have g3 := Bk.froz (i := 3) hO.e
    have g4 := Bk.froz (i := 4) hO.e
    have k0 : wr.cell? ⟨w.heap.size + 1 + 1, 0, none⟩ = some (.bool false) := Bk.cell (i := 0) hO.k
    have kf := Bk.froz (i := 0) hO.k
    have hPN : P < w.heap.size := HVB.out.p
    have HFu : Hid _ := And.intro hF (And.intro hfr (And.intro hO hT1))
    have HJ1 : Hid _ := hJ1
    have HRR : Hid _ := And.intro hrr hec
    clear hF hfr hO hT1 hJ1 hrr hec
    cases hrd : s1.ready with
    | nil =>
      rw [hrd] at c14
      cases hov : s1.over
      · rw [hov] at c17
        rcases hY : readS l L s1 with s2 | ⟨p, er⟩
        · have HY : Hid _ := hY
          have HS : Hid (nextS n l L s2 = nextS (l.length + 2) l L s) := by rw [← HF.out, M.next_go hrd hov hY]; exact rfl
          have hst := M.read_go HJ1.out.k HJ1.out.ta HJ1.out.bg hY
          have hJ2 := HJ1.out.step hst hov
          have hmu := (M.step_mu hrd hov hst).2
          have HJ2 : Hid _ := And.intro hJ2 hrd
          clear hY hst hJ2 hrd
          go_wp2_with (first | (go_at_call 31; refine (rd_go (read_s HFu.out.1 HJ2.out.2 hP HFu.out.2.2.2) HY.out).mono ?_; rintro e w5 ⟨rfl, v5, F5, f5⟩; have HF5 : Hid _ := And.intro F5 f5; clear F5 f5))
          go_roundg n
          case measure => omega
          case rel => exact ⟨s2, v5, HF5.out.1, HFu.out.2.1.trans HF5.out.2, HJ2.out.1, by omega, HF0.out.2.2.fr HVB.out (HFu.out.2.1.trans HF5.out.2), HFu.out.2.2.2.fr HFu.out.1 hP HF5.out.2, HS⟩
        · have HY : Hid _ := hY
          have HC : Hid (X = .fin p er) := by rw [HX.out, ← HF.out, M.next_bad hrd hov hY]; exact rfl
          have HRD : Hid _ := hrd
          clear hY hrd
          go_wp2_with (first | (go_at_call 31; refine (rd_bad (read_s HFu.out.1 HRD.out hP HFu.out.2.2.2) HY.out).mono ?_; rintro e w5 ⟨rfl, v5, hp5, hr5, f5⟩))
          refine leaves_cons (f := 30) (args := #[.pointer (some ⟨w.heap.size, 0, none⟩), .pointer (some ⟨w.heap.size + 1, 0, none⟩), .pointer (some ⟨w.heap.size + 1 + 1, 0, none⟩)]) (by simp) (by simp [go_sem]) ?_
          have hO5 := HF0.out.2.2.fr HVB.out (HFu.out.2.1.trans f5)
          refine (catch_panic (A := w.heap.size) (E := w.heap.size + 1) (K := w.heap.size + 1 + 1) (P := P) (v := v5) (Bk.cell (i := 0) hO5.a) hp5 hO5.e hO5.k (by omega) (by omega) (by omega) (by omega) (by omega) (by omega)).mono ?_
          rintro e u' w6 ⟨rfl, rfl, hC⟩
          have q0 : w6.cell? ⟨w.heap.size + 1, 0, none⟩ = some (.int .i64 0) := Bk.cell (i := 0) hC.e
          have q1 : w6.cell? ⟨w.heap.size + 1, 1, none⟩ = some (.int .i64 0) := Bk.cell (i := 1) hC.e
          have q2 : w6.cell? ⟨w.heap.size + 1, 2, none⟩ = some (.string ⟨#[]⟩) := Bk.cell (i := 2) hC.e
          have q3 : w6.cell? ⟨w.heap.size + 1, 3, none⟩ = some (.string ⟨#[]⟩) := Bk.cell (i := 3) hC.e
          have q4 : w6.cell? ⟨w.heap.size + 1, 4, none⟩ = some (.slice none 0 0) := Bk.cell (i := 4) hC.e
          have qk : w6.cell? ⟨w.heap.size + 1 + 1, 0, none⟩ = some (.bool false) := Bk.cell (i := 0) hC.k
          have hfin : NxP B P w v l L X (.returned (.tuple #[.agg zEv, .bool false])) w6 := by
            rw [HC.out]
            exact ⟨rfl, _, hC.ps, rfl, rfl, Fr.cw HB3.out (HFu.out.2.1.trans f5) ⟨hC.ps, hC.e, hC.k, hC.os, hC.tape, hC.output, hC.size, hC.blk⟩ rfl (by omega) (by omega) rfl rfl rfl⟩
          simp [Leaves, settle, results, Tryd.results24, go_sem, q0, q1, q2, q3, q4, qk]
          exact hfin
      · rw [hov] at c17
        have HC : Hid (X = .fin 0 0) := by rw [HX.out, ← HF.out, M.next_over hrd hov]; exact rfl
        have HRD : Hid _ := hrd
        clear hrd
        go_wp2_with fail
        refine leaves_cons (f := 30) (args := #[.pointer (some ⟨w.heap.size, 0, none⟩), .pointer (some ⟨w.heap.size + 1, 0, none⟩), .pointer (some ⟨w.heap.size + 1 + 1, 0, none⟩)]) (by simp) (by simp [go_sem]) ?_
        refine (catch_idle _ _ _ _).mono ?_
        rintro e u' w6 ⟨rfl, rfl, rfl⟩
        have hcw := (((((CW.refl (K := w.heap.size + 1 + 1) HFu.out.1.inn.ps HFu.out.2.2.1.e HFu.out.2.2.1.k).ev (i := 0) (x := .int .i64 0) (by omega) (by omega) rfl).ev (i := 1) (x := .int .i64 0) (by omega) (by omega) rfl).ev (i := 2) (x := .string ⟨#[]⟩) (by omega) (by omega) rfl).ev (i := 3) (x := .string ⟨#[]⟩) (by omega) (by omega) rfl)
        have hcw2 := (hcw.ev (i := 4) (ce' := zEv) (x := .slice none 0 0) (by omega) (by omega) rfl).kv (i := 0) (ck' := #[.bool false]) (x := .bool false) (by omega) (by omega) rfl
        generalize (((((((wr.setCell ⟨w.heap.size + 1, 0, none⟩ (.int .i64 0)).setCell ⟨w.heap.size + 1, 1, none⟩ (.int .i64 0)).setCell ⟨w.heap.size + 1, 2, none⟩ (.string ⟨#[]⟩)).setCell ⟨w.heap.size + 1, 3, none⟩ (.string ⟨#[]⟩)).setCell ⟨w.heap.size + 1, 4, none⟩ (.slice none 0 0)).setCell ⟨w.heap.size + 1 + 1, 0, none⟩ (.bool false))) = w6 at *
        have q0 : w6.cell? ⟨w.heap.size + 1, 0, none⟩ = some (.int .i64 0) := Bk.cell (i := 0) hcw2.e
        have q1 : w6.cell? ⟨w.heap.size + 1, 1, none⟩ = some (.int .i64 0) := Bk.cell (i := 1) hcw2.e
        have q2 : w6.cell? ⟨w.heap.size + 1, 2, none⟩ = some (.string ⟨#[]⟩) := Bk.cell (i := 2) hcw2.e
        have q3 : w6.cell? ⟨w.heap.size + 1, 3, none⟩ = some (.string ⟨#[]⟩) := Bk.cell (i := 3) hcw2.e
        have q4 : w6.cell? ⟨w.heap.size + 1, 4, none⟩ = some (.slice none 0 0) := Bk.cell (i := 4) hcw2.e
        have qk : w6.cell? ⟨w.heap.size + 1 + 1, 0, none⟩ = some (.bool false) := Bk.cell (i := 0) hcw2.k
        have hfin : NxP B P w v l L X (.returned (.tuple #[.agg zEv, .bool false])) w6 := by
          rw [HC.out]
          exact ⟨rfl, v1, hcw2.ps, HFu.out.1.fa, HFu.out.1.fe, Fr.cw HB3.out HFu.out.2.1 hcw2 rfl (by omega) (by omega) rfl rfl rfl⟩
        simp [Leaves, settle, results, Tryd.results24, go_sem, q0, q1, q2, q3, q4, qk]
        exact hfin
    | cons e es =>
      obtain ⟨sv, ys, hxs, ⟨hsv, hok⟩, hes⟩ : ∃ sv ys, xs = evHead e sv ++ ys ∧ (AR B wr sv e.attrs ∧ EvOk e) ∧ EvC B wr es ys := by
        have := HRR.out.2
        rw [hrd] at this
        exact this
      have HC : Hid (X = .ev e { s1 with ready := es }) := by rw [HX.out, ← HF.out, M.next_pop hrd]; exact rfl
      have hrr := HRR.out.1
      rw [hrd] at hrr c14
      rw [hrv, hrd] at hrr
      have HRR1 : Hid _ := hrr
      rcases hrr with ⟨_, h0, _⟩ | ⟨g, off, cap, hv', hBg, ⟨cur, hh, hsz⟩, hnc, hcm, hxl, hcell⟩
      · simp at h0
      simp at hv'
      obtain ⟨rfl, rfl⟩ := hv'
      have r0 : wr.cell? ⟨g, off, none⟩ = some (.int .i64 e.kind) := by have := hcell 0 (by simp); rw [hxs] at this; simpa [evHead] using this
      have r1 : wr.cell? ⟨g, off + 1, none⟩ = some (.int .i64 e.place) := by have := hcell 1 (by simp; omega); rw [hxs] at this; simpa [evHead] using this
      have r2 : wr.cell? ⟨g, off + 2, none⟩ = some (.string (sb e.name)) := by have := hcell 2 (by simp; omega); rw [hxs] at this; simpa [evHead] using this
      have r3 : wr.cell? ⟨g, off + 3, none⟩ = some (.string (sb e.text)) := by have := hcell 3 (by simp; omega); rw [hxs] at this; simpa [evHead] using this
      have r4 : wr.cell? ⟨g, off + 4, none⟩ = some sv := by have := hcell 4 (by simp; omega); rw [hxs] at this; simpa [evHead] using this
      have f14 := HFu.out.1.inn.ps.froz 14
      have HRD : Hid _ := hrd
      unfold maxLen at hcm
      simp at hnc
      have hrb : v1.ready.ownBlock = some g := by rw [hrv]; rfl
      have HRB : Hid (v1.ready.ownBlock = some g) := hrb
      have hgE : g ≠ w.heap.size + 1 := by
        rcases HFu.out.2.1.nr g hrb with x | x
        · have := HVB.out.r g x; omega
        · have e : (w3a w P).heap.size = w.heap.size + 1 + 1 + 1 := by simp
          omega
      have hrt := RR.tail (n := es.length) (xs := evHead e sv) (ys := ys) (by rw [← hxs]; exact HRR1.out) rfl
      obtain ⟨sa, scap, hsl⟩ := hsv.len
      have hres : (s1.ready.length ≤ 3) := HFu.out.1.rl
      have hel : es.length ≤ 3 := by rw [HRD.out] at hres; simp at hres; omega
      have hF1 := Full.ready (es := es) (xs := ys) HFu.out.1 (World.grownBy.refl wr _) hrt hes hel (fun k e => .inl (by rw [hrb]; split at e <;> exact e))
      have HF1 : Hid _ := hF1
      have HSV : Hid _ := And.intro hsv hok
      have hE1 : (wr.setCell ⟨P, 14, none⟩ (.slice (if rcap = 1 then some ⟨g, off, none⟩ else some ⟨g, off + 5, none⟩) es.length (rcap - 1))).heap[w.heap.size + 1]? = some (.cells zEv 35 (0, 0)) := (hset (by omega)).trans HFu.out.2.2.1.e
      have hK1 : (wr.setCell ⟨P, 14, none⟩ (.slice (if rcap = 1 then some ⟨g, off, none⟩ else some ⟨g, off + 5, none⟩) es.length (rcap - 1))).heap[w.heap.size + 1 + 1]? = some (.cells #[.bool false] 4 (0, 0)) := (hset (by omega)).trans HFu.out.2.2.1.k
      have HEK : Hid _ := And.intro hE1 hK1
      have hcw := (((((CW.refl (K := w.heap.size + 1 + 1) HFu.out.1.inn.ps HFu.out.2.2.1.e HFu.out.2.2.1.k).ev (i := 0) (x := .int .i64 e.kind) (by omega) (by omega) rfl).ev (i := 1) (x := .int .i64 e.place) (by omega) (by omega) rfl).ev (i := 2) (x := .string (sb e.name)) (by omega) (by omega) rfl).ev (i := 3) (x := .string (sb e.text)) (by omega) (by omega) rfl)
      have hcw2 := (hcw.ev (i := 4) (ce' := #[.int .i64 e.kind, .int .i64 e.place, .string (sb e.name), .string (sb e.text), sv]) (x := sv) (by omega) (by omega) rfl).p (i := 14) (v' := { v1 with ready := .slice (if rcap = 1 then some ⟨g, off, none⟩ else some ⟨g, off + 5, none⟩) es.length (rcap - 1) }) (x := .slice (if rcap = 1 then some ⟨g, off, none⟩ else some ⟨g, off + 5, none⟩) es.length (rcap - 1)) (by omega) (by omega) rfl
      have hcw3 := hcw2.drew
      have HCW : Hid _ := hcw3
      have hne5 : ∀ x : Option Addr, (Value.slice x es.length (rcap - 1)) = .slice x es.length (rcap - 1) := fun _ => rfl
      clear hrt hF1 hE1 hK1 hcw hcw2 hcw3 hsv hok hes hcell hxl hh hxs hne5 hrv hrb hrc hrm
      subst hsl
      clear hrd
      obtain ⟨ra, hra⟩ : ∃ ra, ra = (if rcap = 1 then some (⟨g, off, none⟩ : Addr) else some ⟨g, off + 5, none⟩) := ⟨_, rfl⟩
      obtain ⟨rc, hrc⟩ : ∃ rc, rc = rcap - 1 := ⟨_, rfl⟩
      rw [← hra, ← hrc] at HCW HF1 HEK
      have hrag : ∀ a n c, (Value.slice ra n c).ownBlock = some a → a = g := by
        intro a n c h
        rw [hra] at h
        split at h <;> (simp [Value.ownBlock] at h; exact h.symm)
      have HRA : Hid _ := hrag
      clear hrag
      have hcase : (rcap = 1 ∧ ra = some ⟨g, off, none⟩ ∧ rc = 0) ∨ (¬ rcap = 1 ∧ ra = some ⟨g, off + 5, none⟩ ∧ rc = rcap - 1) := by
        by_cases h1 : rcap = 1
        · left; exact ⟨h1, by rw [hra, if_pos h1], by omega⟩
        · right; exact ⟨h1, by rw [hra, if_neg h1], hrc⟩
      clear hra hrc
      rcases hcase with ⟨hc1, rfl, rfl⟩ | ⟨hc1, rfl, rfl⟩
      all_goals
        go_wp2_with fail
        go_region
        go_wp2_with fail
        have hcw := HCW.out
        have F7 := HF1.out.1.ext (E := w.heap.size + 1) (K := w.heap.size + 1 + 1) (Nat.le_trans (by simp [World.setCell]) hcw.size) (fun i _ h2 h3 => by
          by_cases hi : i = P
          · subst hi; exact hcw.ps.trans HF1.out.1.inn.ps.symm
          · exact (hcw.blk i hi h2 h3).trans (hset hi).symm) ⟨_, HEK.out.1⟩ ⟨_, HEK.out.2⟩ (fun a h => by have := HRA.out a _ _ h; omega)
        refine (count_s hcw.ps).mono ?_
        rintro e8 w8 ⟨rfl, d, m, hg8, hp8, hz8⟩
        have hcw8 := hcw.grown (by omega) (by omega) hg8 hp8 hz8
        have F8 := F7.1.dm hg8 hp8
        have hA8 : AR B w8 (.slice sa e.attrs.length scap) e.attrs := (ky_ps hcw.ps hg8 (by decide)).own (F7.2.own ((ky_pset HFu.out.1.inn.ps (by decide) _).own HSV.out.1))
        have HF8 : Hid _ := And.intro F8.1 (And.intro hcw8 hA8)
        have q0 : w8.cell? ⟨w.heap.size + 1, 0, none⟩ = some (.int .i64 e.kind) := Bk.cell (i := 0) hcw8.e
        have q1 : w8.cell? ⟨w.heap.size + 1, 1, none⟩ = some (.int .i64 e.place) := Bk.cell (i := 1) hcw8.e
        have q2 : w8.cell? ⟨w.heap.size + 1, 2, none⟩ = some (.string (sb e.name)) := Bk.cell (i := 2) hcw8.e
        have q3 : w8.cell? ⟨w.heap.size + 1, 3, none⟩ = some (.string (sb e.text)) := Bk.cell (i := 3) hcw8.e
        have q4 : w8.cell? ⟨w.heap.size + 1, 4, none⟩ = some (.slice sa e.attrs.length scap) := Bk.cell (i := 4) hcw8.e
        have y0 := Bk.froz (i := 0) hcw8.e
        have y1 := Bk.froz (i := 1) hcw8.e
        have y2 := Bk.froz (i := 2) hcw8.e
        have y3 := Bk.froz (i := 3) hcw8.e
        have y4 := Bk.froz (i := 4) hcw8.e
        have qk : w8.cell? ⟨w.heap.size + 1 + 1, 0, none⟩ = some (.bool false) := Bk.cell (i := 0) hcw8.k
        have yk := Bk.froz (i := 0) hcw8.k
        clear hcw F7 hcw8 F8 hA8 hg8 hp8 hz8
        go_wp2_with fail
        refine leaves_cons (f := 30) (args := #[.pointer (some ⟨w.heap.size, 0, none⟩), .pointer (some ⟨w.heap.size + 1, 0, none⟩), .pointer (some ⟨w.heap.size + 1 + 1, 0, none⟩)]) (by simp) (by simp [go_sem]) ?_
        refine (catch_idle _ _ _ _).mono ?_
        rintro e9 u' w9 ⟨rfl, rfl, rfl⟩
        have hz := (((((HF8.out.2.1.ev (i := 0) (x := .int .i64 e.kind) (by omega) (by omega) rfl).ev (i := 1) (x := .int .i64 e.place) (by omega) (by omega) rfl).ev (i := 2) (x := .string (sb e.name)) (by omega) (by omega) rfl).ev (i := 3) (x := .string (sb e.text)) (by omega) (by omega) rfl).ev (i := 4) (ce' := #[.int .i64 e.kind, .int .i64 e.place, .string (sb e.name), .string (sb e.text), .slice sa e.attrs.length scap]) (x := .slice sa e.attrs.length scap) (by omega) (by omega) rfl).kv (i := 0) (ck' := #[.bool true]) (x := .bool true) (by omega) (by omega) rfl
        have hz2 := (((((CW.refl (K := w.heap.size + 1 + 1) HF8.out.1.inn.ps HF8.out.2.1.e HF8.out.2.1.k).ev (i := 0) (x := .int .i64 e.kind) (by omega) (by omega) rfl).ev (i := 1) (x := .int .i64 e.place) (by omega) (by omega) rfl).ev (i := 2) (x := .string (sb e.name)) (by omega) (by omega) rfl).ev (i := 3) (x := .string (sb e.text)) (by omega) (by omega) rfl)
        have hz3 := (hz2.ev (i := 4) (x := .slice sa e.attrs.length scap) (by omega) (by omega) rfl).kv (i := 0) (ck' := #[.bool true]) (x := .bool true) (by omega) (by omega) rfl
        generalize (((((w8.setCell ⟨w.heap.size + 1, 0, none⟩ (.int .i64 e.kind)).setCell ⟨w.heap.size + 1, 1, none⟩ (.int .i64 e.place)).setCell ⟨w.heap.size + 1, 2, none⟩ (.string (sb e.name))).setCell ⟨w.heap.size + 1, 3, none⟩ (.string (sb e.text))).setCell ⟨w.heap.size + 1, 4, none⟩ (.slice sa e.attrs.length scap)).setCell ⟨w.heap.size + 1 + 1, 0, none⟩ (.bool true) = w9 at *
        have F9 := HF8.out.1.ext (E := w.heap.size + 1) (K := w.heap.size + 1 + 1) hz3.size (fun i _ h2 h3 => by
          by_cases hi : i = P
          · subst hi; exact hz3.ps.trans HF8.out.1.inn.ps.symm
          · exact hz3.blk i hi h2 h3) ⟨_, HF8.out.2.1.e⟩ ⟨_, HF8.out.2.1.k⟩ (fun a h => by have := HRA.out a _ _ h; omega)
        have z0 : w9.cell? ⟨w.heap.size + 1, 0, none⟩ = some (.int .i64 e.kind) := Bk.cell (i := 0) hz.e
        have z1 : w9.cell? ⟨w.heap.size + 1, 1, none⟩ = some (.int .i64 e.place) := Bk.cell (i := 1) hz.e
        have z2 : w9.cell? ⟨w.heap.size + 1, 2, none⟩ = some (.string (sb e.name)) := Bk.cell (i := 2) hz.e
        have z3 : w9.cell? ⟨w.heap.size + 1, 3, none⟩ = some (.string (sb e.text)) := Bk.cell (i := 3) hz.e
        have z4 : w9.cell? ⟨w.heap.size + 1, 4, none⟩ = some (.slice sa e.attrs.length scap) := Bk.cell (i := 4) hz.e
        have zk : w9.cell? ⟨w.heap.size + 1 + 1, 0, none⟩ = some (.bool true) := Bk.cell (i := 0) hz.k
        have hfin : NxP B P w v l L X (.returned (.tuple #[evV e (.slice sa e.attrs.length scap), .bool true])) w9 := by
          rw [HC.out]
          exact ⟨_, _, rfl, F9.2.own HF8.out.2.2, HSV.out.2, F9.1, Fr.cw HB3.out HFu.out.2.1 hz rfl (by omega) (by omega) rfl (by rw [HRB.out]; rfl) rfl⟩
        simp [Leaves, settle, results, Tryd.results24, go_sem, z0, z1, z2, z3, z4, zk]
        exact hfin
end Go.Proofs.YtjcgnbmpnaapdaaDoor
