/- The contract of count; what Next's own variables leave. -/
import Derived.Test.YtjcgnbmpnaapdaaDoorQ13
namespace Go.Proofs.YtjcgnbmpnaapdaaDoor
open Go.RowKit
set_option linter.unusedVariables false

def CntP (P : Nat) (v : PV) (w w' : World) : Prop := ∃ d m, w.grownBy w' (some P) ∧ PS w' P { v with depth := d, most := m } ∧ w.heap.size = w'.heap.size
set_option maxHeartbeats 1600000 in
theorem count_s {P : Nat} {w : World} {v : PV} {k : Int} (h : PS w P v) : Calls Tryd.prog 32 #[pp P, .int .i64 k] w fun e w' => e = .returned (.tuple #[]) ∧ CntP P v w w' := by
  have c15 : w.cell? ⟨P, 15, none⟩ = some (.int .i64 v.depth) := h.cell 15
  have c16 : w.cell? ⟨P, 16, none⟩ = some (.int .i64 v.most) := h.cell 16
  have f15 := h.froz 15
  have f16 := h.froz 16
  have HH : Hid _ := h
  clear h
  by_cases h1 : k = 1
  · subst h1
    have hs : ∀ x : Int, PS (w.setCell ⟨P, 15, none⟩ (.int .i64 x)) P { v with depth := x } := fun x => PS.set (w := w) (v := v) HH.out 15 _ rfl
    have hs2 : ∀ x y : Int, PS ((w.setCell ⟨P, 15, none⟩ (.int .i64 x)).setCell ⟨P, 16, none⟩ (.int .i64 y)) P { v with depth := x, most := y } := fun x y => PS.set (hs x) 16 _ rfl
    have HS : Hid _ := hs2
    clear hs hs2
    go_enter Tryd.func32, Tryd.ntmps32
    go_wp2
    go_region
    all_goals go_wp2
    all_goals
      go_end0
      exact ⟨rfl, _, _, grownBy_trans (grownBy_trans (grownBy_set _ _ _ _) (grownBy_set _ _ _ _)) (grownBy_drewN _ 1 _), HS.out _ _, by simp [World.setCell]⟩
  · have h1b : (k == 1) = false := by simp [h1]
    by_cases h2 : k = 2
    · subst h2
      have hs : ∀ x : Int, PS (w.setCell ⟨P, 15, none⟩ (.int .i64 x)) P { v with depth := x } := fun x => PS.set (w := w) (v := v) HH.out 15 _ rfl
      have HS : Hid _ := hs
      clear hs h1 h1b
      go_enter Tryd.func32, Tryd.ntmps32
      go_wp2
      go_end0
      exact ⟨rfl, _, v.most, grownBy_set _ _ _ _, HS.out _, by simp [World.setCell]⟩
    · have h2b : (k == 2) = false := by simp [h2]
      clear h1 h2
      go_enter Tryd.func32, Tryd.ntmps32
      go_wp2
      go_end0
      exact ⟨rfl, v.depth, v.most, World.grownBy.refl _ _, HH.out, rfl⟩
theorem Full.dm {B P : Nat} {w w' : World} {v : PV} {l : Bs} {L : Lm} {s : S} {d m : Int} (h : Full B P w v l L s) (hg : w.grownBy w' (some P)) (hp : PS w' P { v with depth := d, most := m }) : Full B P w' { v with depth := d, most := m } l L s ∧ Fr P w w' v { v with depth := d, most := m } := by
  have hk : ∀ {t : TypeId}, t ≠ 81 → Ky t w w' := fun ht => ky_ps h.inn.ps hg ht
  obtain ⟨xs, h1, h2⟩ := h.rd
  refine ⟨⟨⟨hp, h.inn.br.kept h.inn.ps hg, h.inn.ke, h.inn.kl, h.inn.ll⟩, h.pb, h.gb, Nat.le_trans h.sz hg.size, h.ld, h.lN, h.la, h.lt', h.bD, h.bA, h.bT, h.lg, (hk (by decide)).own h.op, h.opl, h.nd, h.bg, h.ta, (hk (by decide)).own h.to, h.tb, h.tl, ⟨xs, (hk (by decide)).rr h1, EvC.ky (hk (by decide)) h2⟩, h.rl, h.ov, h.fa, h.fe, h.bN, h.nb, h.ob⟩, ?_⟩
  exact ⟨hg.os, hg.tape, hg.output, hg.size, fun k hk1 n1 _ _ _ => hg.block k hk1 (by simpa using n1), fun _ e => .inl e, fun _ e => .inl e, fun _ e => .inl e⟩
theorem CW.refl {P E K : Nat} {v : PV} {ce ck : Array Value} {w : World} (hp : PS w P v) (hE : w.heap[E]? = some (.cells ce 35 (0, 0))) (hK : w.heap[K]? = some (.cells ck 4 (0, 0))) : CW P E K v ce ck w w := ⟨hp, hE, hK, rfl, rfl, rfl, Nat.le_refl _, fun _ _ _ _ => rfl⟩
theorem Fr.cw {P E K N : Nat} {w w3 wr w' : World} {v v1 v' : PV} {ce ck : Array Value} (hb : Below w.heap.size w w3) (hf : Fr P w3 wr v v1) (h : CW P E K v' ce ck wr w') (hN : N = w.heap.size) (hE : N ≤ E) (hK : N ≤ K) (ht : v'.tout = v1.tout) (hr : v'.ready.ownBlock = v1.ready.ownBlock) (ho : v'.op = v1.op) : Fr P w w' v v' := by
  have hs3 := hb.size
  refine ⟨h.os.trans (hf.os.trans hb.os), h.tape.trans (hf.tape.trans hb.tape), h.output.trans (hf.output.trans hb.output), Nat.le_trans hb.size (Nat.le_trans hf.size h.size), ?_, ?_, ?_, ?_⟩
  · intro k hk n1 n2 n3 n4
    rw [h.blk k n1 (by omega) (by omega), hf.blk k (by omega) n1 n2 n3 n4, hb.block k hk]
  · intro k e; rw [ht] at e; rcases hf.nt k e with x | x
    · exact .inl x
    · right; omega
  · intro k e; rw [hr] at e; rcases hf.nr k e with x | x
    · exact .inl x
    · right; omega
  · intro k e; rw [ho] at e; rcases hf.no k e with x | x
    · exact .inl x
    · right; omega
theorem CW.grown {P E K : Nat} {v v' : PV} {ce ck : Array Value} {w w' w'' : World} (h : CW P E K v ce ck w w') (hPE : P ≠ E) (hPK : P ≠ K) (hg : w'.grownBy w'' (some P)) (hp : PS w'' P v') (hsz : w'.heap.size = w''.heap.size) : CW P E K v' ce ck w w'' :=
  ⟨hp, (hg.block E (Array.getElem?_eq_some_iff.1 h.e).1 (by simpa using hPE.symm)).trans h.e, (hg.block K (Array.getElem?_eq_some_iff.1 h.k).1 (by simpa using hPK.symm)).trans h.k, hg.os.trans h.os, hg.tape.trans h.tape, hg.output.trans h.output, Nat.le_trans h.size hg.size,
    fun i h1 h2 h3 => by
      by_cases hi : i < w'.heap.size
      · exact (hg.block i hi (by simpa using h1)).trans (h.blk i h1 h2 h3)
      · rw [Array.getElem?_eq_none (by omega), ← h.blk i h1 h2 h3, Array.getElem?_eq_none (by omega)]⟩
theorem Full.ext {B P E K : Nat} {w w' : World} {v : PV} {l : Bs} {L : Lm} {s : S} (h : Full B P w v l L s) (hs : w.heap.size ≤ w'.heap.size) (hb : ∀ i, i < w.heap.size → i ≠ E → i ≠ K → w'.heap[i]? = w.heap[i]?) (hE : ∃ c, w.heap[E]? = some (.cells c 35 (0, 0))) (hK : ∃ c, w.heap[K]? = some (.cells c 4 (0, 0))) (hr : ∀ g, v.ready.ownBlock = some g → g ≠ E) :
    Full B P w' v l L s ∧ Ky 37 w w' := by
  obtain ⟨cE, hE⟩ := hE
  obtain ⟨cK, hK⟩ := hK
  have hk : ∀ {t : TypeId}, t ≠ 35 → t ≠ 4 → Ky t w w' := by
    intro t h1 h2 k c f hh
    rw [hb k (Array.getElem?_eq_some_iff.1 hh).1]
    · exact hh
    · rintro rfl; rw [hE] at hh; simp at hh; exact h1 hh.2.1.symm
    · rintro rfl; rw [hK] at hh; simp at hh; exact h2 hh.2.1.symm
  obtain ⟨xs, h1, h2⟩ := h.rd
  have hrr : RR B w' v.ready s.ready.length xs := by
    refine rr_blk h1 ?_
    intro g e
    refine hb g (h1.lt g e).2 (hr g e) ?_
    rintro rfl
    exact rr_ty h1 (t := 4) (by decide) g e _ _ hK
  refine ⟨⟨h.inn.ky (hk (by decide) (by decide)) (hk (by decide) (by decide)), h.pb, h.gb, Nat.le_trans h.sz hs, h.ld, h.lN, h.la, h.lt', h.bD, h.bA, h.bT, h.lg, (hk (by decide) (by decide)).own h.op, h.opl, h.nd, h.bg, h.ta, (hk (by decide) (by decide)).own h.to, h.tb, h.tl, ⟨xs, hrr, EvC.ky (hk (by decide) (by decide)) h2⟩, h.rl, h.ov, h.fa, h.fe, h.bN, h.nb, h.ob⟩, hk (by decide) (by decide)⟩
theorem RR.tail {B n g off cap : Nat} {w : World} {ys xs : List Value} (h : RR B w (.slice (some ⟨g, off, none⟩) (n + 1) cap) (n + 1) (xs ++ ys)) (hx : xs.length = 5) :
    RR B w (.slice (if cap = 1 then some ⟨g, off, none⟩ else some ⟨g, off + 5, none⟩) n (cap - 1)) n ys := by
  rcases h with ⟨h0, _⟩ | ⟨g', off', cap', hv, hB, ⟨cur, hh, hs⟩, h1, h2, h3, h4⟩
  · cases h0
  · simp at hv
    obtain ⟨⟨rfl, rfl⟩, rfl⟩ := hv
    simp at h3
    by_cases hc : cap = 1
    · subst hc
      have hn : n = 0 := by omega
      subst hn
      have hy : ys = [] := List.eq_nil_of_length_eq_zero (by omega)
      rw [if_pos rfl, hy]
      exact .inr ⟨g, off, 0, rfl, hB, ⟨cur, hh, by omega⟩, by omega, by omega, rfl, fun j hj => by omega⟩
    · rw [if_neg hc]
      refine .inr ⟨g, off + 5, cap - 1, rfl, hB, ⟨cur, hh, by omega⟩, by omega, by omega, by omega, fun j hj => ?_⟩
      have := h4 (5 + j) (by omega)
      rw [List.getElem?_append_right (by omega)] at this
      rw [Nat.add_assoc, this]
      congr 1
      omega
end Go.Proofs.YtjcgnbmpnaapdaaDoor
