/- The contract of Next. -/
import Derived.Test.YtjcgnbmpnaapdaaDoorQ13b
namespace Go.Proofs.YtjcgnbmpnaapdaaDoor
open Go.RowKit
set_option linter.unusedVariables false

def evV (e : Ev) (sv : Value) : Value := .agg #[.int .i64 e.kind, .int .i64 e.place, .string (sb e.name), .string (sb e.text), sv]
def NxP (B P : Nat) (w : World) (v : PV) (l : Bs) (L : Lm) (x : Nx) (r : Ending) (w' : World) : Prop :=
  match x with
  | .ev e s' => ∃ sv v', r = .returned (.tuple #[evV e sv, .bool true]) ∧ AR B w' sv e.attrs ∧ EvOk e ∧ Full B P w' v' l L s' ∧ Fr P w w' v v'
  | .fin p er => r = .returned (.tuple #[.agg zEv, .bool false]) ∧ ∃ v', PS w' P v' ∧ v'.fat = p ∧ v'.ferr = er ∧ Fr P w w' v v'
theorem RR.form {B n : Nat} {w : World} {v : Value} {xs : List Value} (h : RR B w v n xs) : ∃ a cap, v = .slice a n cap ∧ n ≤ cap ∧ cap ≤ maxLen := by
  rcases h with ⟨rfl, rfl, _⟩ | ⟨g, off, cap, rfl, _, _, h1, h2, _⟩
  · exact ⟨none, 0, rfl, Nat.le_refl _, by unfold maxLen; omega⟩
  · exact ⟨_, cap, rfl, h1, h2⟩
abbrev w3a (w : World) (P : Nat) : World := ((w.alloc (.cells #[pp P] 64)).alloc (.cells zEv 35)).alloc (.cells #[.bool false] 4)
/-- Next's own three variables. -/
structure Own (P N : Nat) (w : World) : Prop where
  a : w.heap[N]? = some (.cells #[pp P] 64 (0, 0))
  e : w.heap[N + 1]? = some (.cells zEv 35 (0, 0))
  k : w.heap[N + 1 + 1]? = some (.cells #[.bool false] 4 (0, 0))
theorem own_new (w : World) (P : Nat) : Own P w.heap.size (w3a w P) := by
  have h1 := heap_alloc_new w (.cells #[pp P] 64)
  have h2 := heap_alloc_new (w.alloc (.cells #[pp P] 64)) (.cells zEv 35)
  have h3 := heap_alloc_new ((w.alloc (.cells #[pp P] 64)).alloc (.cells zEv 35)) (.cells #[.bool false] 4)
  have e1 : (w.alloc (.cells #[pp P] 64)).heap.size = w.heap.size + 1 := by simp
  have e2 : ((w.alloc (.cells #[pp P] 64)).alloc (.cells zEv 35)).heap.size = w.heap.size + 1 + 1 := by simp
  rw [e1] at h2
  rw [e2] at h3
  refine ⟨?_, ?_, h3⟩
  · rw [Below.heap_alloc _ _ _ (by simp; omega), Below.heap_alloc _ _ _ (by simp)]; exact h1
  · rw [Below.heap_alloc _ _ _ (by simp)]; exact h2
theorem Own.fr {P N : Nat} {w w' : World} {v v' : PV} (h : Own P N w) (hvb : VB P N v) (hf : Fr P w w' v v') : Own P N w' := by
  have hlt : N + 1 + 1 < w.heap.size := (Array.getElem?_eq_some_iff.1 h.k).1
  have k : ∀ i, N ≤ i → i < w.heap.size → w'.heap[i]? = w.heap[i]? := by
    intro i hi h2
    refine hf.blk i h2 ?_ ?_ ?_ ?_
    · have := hvb.p; omega
    · intro e; have := hvb.t i e.symm; omega
    · intro e; have := hvb.r i e.symm; omega
    · intro e; have := hvb.o i e.symm; omega
  exact ⟨(k N (Nat.le_refl _) (by omega)).trans h.a, (k (N + 1) (by omega) (by omega)).trans h.e, (k (N + 1 + 1) (by omega) hlt).trans h.k⟩
set_option maxHeartbeats 3200000 in
theorem next_s {B P : Nat} {w : World} {v : PV} {l : Bs} {L : Lm} {s : S} (h : Full B P w v l L s) (hJ : M.J l s) (hP : P ≠ 0) (ht : Tab w) :
    Calls Tryd.prog 24 #[pp P] w (NxP B P w v l L (nextS (l.length + 2) l L s)) := by
  have hmf : ∀ (fn : Fn) (first cap : Array Value) (w : World), (Instr.makeFunc fn first cap).run Tryd.prog w = .ok (.func fn first cap) w := fun _ _ _ _ => rfl
  obtain ⟨X, hX⟩ : ∃ X, X = nextS (l.length + 2) l L s := ⟨_, rfl⟩
  rw [← hX]
  have HX : Hid _ := hX
  clear hX
  have hb3 : Below w.heap.size w (w3a w P) := (((Below.refl _ _).alloc (Nat.le_refl _) _).alloc (by simp) _).alloc (by simp; omega) _
  have hO := own_new w P
  obtain ⟨h3, f3⟩ := h.below hb3
  have HF0 : Hid _ := And.intro h3 (And.intro f3 hO)
  have HB3 : Hid _ := hb3
  have HVB : Hid _ := h.vb
  have HT : Hid _ := ht.fr h hP f3
  have HH : Hid _ := h
  have HJ : Hid _ := hJ
  clear h h3 f3 hO ht hb3 hJ
  go_enter_defers Tryd.func24, Tryd.ntmps24
  go_wp2_with fail
  go_loopg [] (l.length + 2) (fun n wr => ∃ (s1 : S) (v1 : PV), Full B P wr v1 l L s1 ∧ Fr P (w3a w P) wr v v1 ∧ M.J l s1 ∧ M.nu l s1 < n ∧ Own P w.heap.size wr ∧ Tab wr ∧ Hid (nextS n l L s1 = nextS (l.length + 2) l L s))
  case atStart => exact ⟨s, v, HF0.out.1, Fr.refl _ _ _, HJ.out, by have := M.ov1_le s; unfold M.nu; omega, HF0.out.2.2, HT.out, rfl⟩
  case round =>
    obtain ⟨s1, v1, hF, hfr, hJ1, hnu, hO, hT1, HF⟩ := hrel
    obtain ⟨n, rfl⟩ : ∃ n, gk = n + 1 := ⟨gk - 1, by omega⟩
    have cA : wr.cell? ⟨w.heap.size, 0, none⟩ = some (pp P) := Bk.cell (i := 0) hO.a
    have c14 : wr.cell? ⟨P, 14, none⟩ = some v1.ready := hF.inn.ps.cell 14
    have c17 : wr.cell? ⟨P, 17, none⟩ = some (.bool s1.over) := (hF.inn.ps.cell 17).trans (by rw [← hF.ov]; rfl)
    obtain ⟨xs, hrr, hec⟩ := hF.rd
    obtain ⟨ra, rcap, hrv, hrc, hrm⟩ := hrr.form
    rw [hrv] at c14
    have e0 : wr.cell? ⟨w.heap.size + 1, 0, none⟩ = some (.int .i64 0) := Bk.cell (i := 0) hO.e
    have e1 : wr.cell? ⟨w.heap.size + 1, 1, none⟩ = some (.int .i64 0) := Bk.cell (i := 1) hO.e
    have e2 : wr.cell? ⟨w.heap.size + 1, 2, none⟩ = some (.string ⟨#[]⟩) := Bk.cell (i := 2) hO.e
    have e3 : wr.cell? ⟨w.heap.size + 1, 3, none⟩ = some (.string ⟨#[]⟩) := Bk.cell (i := 3) hO.e
    have e4 : wr.cell? ⟨w.heap.size + 1, 4, none⟩ = some (.slice none 0 0) := Bk.cell (i := 4) hO.e
    have g0 := Bk.froz (i := 0) hO.e
    have g1 := Bk.froz (i := 1) hO.e
    have g2 := Bk.froz (i := 2) hO.e
    have g3 := Bk.froz (i := 3) hO.e
    have g4 := Bk.froz (i := 4) hO.e
    have k0 : wr.cell? ⟨w.heap.size + 1 + 1, 0, none⟩ = some (.bool false) := Bk.cell (i := 0) hO.k
    have kf := Bk.froz (i := 0) hO.k
    have hPN : P < w.heap.size := HVB.out.p
    have HFu : Hid _ := And.intro hF (And.intro hfr (And.intro hO hT1))
    have HJ1 : Hid _ := hJ1
    have HRR : Hid _ := And.intro hrr hec
    clear hF hfr hO hT1 hJ1 hrr hec
    cases hrd : s1.ready with
    | nil =>
      rw [hrd] at c14
      cases hov : s1.over
      · rw [hov] at c17
        rcases hY : readS l L s1 with s2 | ⟨p, er⟩
        · have HY : Hid _ := hY
          have HS : Hid (nextS n l L s2 = nextS (l.length + 2) l L s) := by rw [← HF.out, M.next_go hrd hov hY]; exact rfl
          have hst := M.read_go HJ1.out.k HJ1.out.ta HJ1.out.bg hY
          have hJ2 := HJ1.out.step hst hov
          have hmu := (M.step_mu hrd hov hst).2
          have HJ2 : Hid _ := And.intro hJ2 hrd
          clear hY hst hJ2 hrd
          go_wp2_with (first | (go_at_call 31; refine (rd_go (read_s HFu.out.1 HJ2.out.2 hP HFu.out.2.2.2) HY.out).mono ?_; rintro e w5 ⟨rfl, v5, F5, f5⟩; have HF5 : Hid _ := And.intro F5 f5; clear F5 f5))
          go_roundg n
          case measure => omega
          case rel => exact ⟨s2, v5, HF5.out.1, HFu.out.2.1.trans HF5.out.2, HJ2.out.1, by omega, HF0.out.2.2.fr HVB.out (HFu.out.2.1.trans HF5.out.2), HFu.out.2.2.2.fr HFu.out.1 hP HF5.out.2, HS⟩
        · have HY : Hid _ := hY
          have HC : Hid (X = .fin p er) := by rw [HX.out, ← HF.out, M.next_bad hrd hov hY]; exact rfl
          have HRD : Hid _ := hrd
          clear hY hrd
          go_wp2_with (first | (go_at_call 31; refine (rd_bad (read_s HFu.out.1 HRD.out hP HFu.out.2.2.2) HY.out).mono ?_; rintro e w5 ⟨rfl, v5, hp5, hr5, f5⟩))
          refine leaves_cons (f := 30) (args := #[.pointer (some ⟨w.heap.size, 0, none⟩), .pointer (some ⟨w.heap.size + 1, 0, none⟩), .pointer (some ⟨w.heap.size + 1 + 1, 0, none⟩)]) (by simp) (by simp [go_sem]) ?_
          have hO5 := HF0.out.2.2.fr HVB.out (HFu.out.2.1.trans f5)
          refine (catch_panic (A := w.heap.size) (E := w.heap.size + 1) (K := w.heap.size + 1 + 1) (P := P) (v := v5) (Bk.cell (i := 0) hO5.a) hp5 hO5.e hO5.k (by omega) (by omega) (by omega) (by omega) (by omega) (by omega)).mono ?_
          rintro e u' w6 ⟨rfl, rfl, hC⟩
          have q0 : w6.cell? ⟨w.heap.size + 1, 0, none⟩ = some (.int .i64 0) := Bk.cell (i := 0) hC.e
          have q1 : w6.cell? ⟨w.heap.size + 1, 1, none⟩ = some (.int .i64 0) := Bk.cell (i := 1) hC.e
          have q2 : w6.cell? ⟨w.heap.size + 1, 2, none⟩ = some (.string ⟨#[]⟩) := Bk.cell (i := 2) hC.e
          have q3 : w6.cell? ⟨w.heap.size + 1, 3, none⟩ = some (.string ⟨#[]⟩) := Bk.cell (i := 3) hC.e
          have q4 : w6.cell? ⟨w.heap.size + 1, 4, none⟩ = some (.slice none 0 0) := Bk.cell (i := 4) hC.e
          have qk : w6.cell? ⟨w.heap.size + 1 + 1, 0, none⟩ = some (.bool false) := Bk.cell (i := 0) hC.k
          have hfin : NxP B P w v l L X (.returned (.tuple #[.agg zEv, .bool false])) w6 := by
            rw [HC.out]
            exact ⟨rfl, _, hC.ps, rfl, rfl, Fr.cw HB3.out (HFu.out.2.1.trans f5) ⟨hC.ps, hC.e, hC.k, hC.os, hC.tape, hC.output, hC.size, hC.blk⟩ rfl (by omega) (by omega) rfl rfl rfl⟩
          simp [Leaves, settle, results, Tryd.results24, go_sem, q0, q1, q2, q3, q4, qk]
          exact hfin
      · rw [hov] at c17
        have HC : Hid (X = .fin 0 0) := by rw [HX.out, ← HF.out, M.next_over hrd hov]; exact rfl
        have HRD : Hid _ := hrd
        clear hrd
        go_wp2_with fail
        refine leaves_cons (f := 30) (args := #[.pointer (some ⟨w.heap.size, 0, none⟩), .pointer (some ⟨w.heap.size + 1, 0, none⟩), .pointer (some ⟨w.heap.size + 1 + 1, 0, none⟩)]) (by simp) (by simp [go_sem]) ?_
        refine (catch_idle _ _ _ _).mono ?_
        rintro e u' w6 ⟨rfl, rfl, rfl⟩
        have hcw := (((((CW.refl (K := w.heap.size + 1 + 1) HFu.out.1.inn.ps HFu.out.2.2.1.e HFu.out.2.2.1.k).ev (i := 0) (x := .int .i64 0) (by omega) (by omega) rfl).ev (i := 1) (x := .int .i64 0) (by omega) (by omega) rfl).ev (i := 2) (x := .string ⟨#[]⟩) (by omega) (by omega) rfl).ev (i := 3) (x := .string ⟨#[]⟩) (by omega) (by omega) rfl)
        have hcw2 := (hcw.ev (i := 4) (ce' := zEv) (x := .slice none 0 0) (by omega) (by omega) rfl).kv (i := 0) (ck' := #[.bool false]) (x := .bool false) (by omega) (by omega) rfl
        generalize (((((((wr.setCell ⟨w.heap.size + 1, 0, none⟩ (.int .i64 0)).setCell ⟨w.heap.size + 1, 1, none⟩ (.int .i64 0)).setCell ⟨w.heap.size + 1, 2, none⟩ (.string ⟨#[]⟩)).setCell ⟨w.heap.size + 1, 3, none⟩ (.string ⟨#[]⟩)).setCell ⟨w.heap.size + 1, 4, none⟩ (.slice none 0 0)).setCell ⟨w.heap.size + 1 + 1, 0, none⟩ (.bool false))) = w6 at *
        have q0 : w6.cell? ⟨w.heap.size + 1, 0, none⟩ = some (.int .i64 0) := Bk.cell (i := 0) hcw2.e
        have q1 : w6.cell? ⟨w.heap.size + 1, 1, none⟩ = some (.int .i64 0) := Bk.cell (i := 1) hcw2.e
        have q2 : w6.cell? ⟨w.heap.size + 1, 2, none⟩ = some (.string ⟨#[]⟩) := Bk.cell (i := 2) hcw2.e
        have q3 : w6.cell? ⟨w.heap.size + 1, 3, none⟩ = some (.string ⟨#[]⟩) := Bk.cell (i := 3) hcw2.e
        have q4 : w6.cell? ⟨w.heap.size + 1, 4, none⟩ = some (.slice none 0 0) := Bk.cell (i := 4) hcw2.e
        have qk : w6.cell? ⟨w.heap.size + 1 + 1, 0, none⟩ = some (.bool false) := Bk.cell (i := 0) hcw2.k
        have hfin : NxP B P w v l L X (.returned (.tuple #[.agg zEv, .bool false])) w6 := by
          rw [HC.out]
          exact ⟨rfl, v1, hcw2.ps, HFu.out.1.fa, HFu.out.1.fe, Fr.cw HB3.out HFu.out.2.1 hcw2 rfl (by omega) (by omega) rfl rfl rfl⟩
        simp [Leaves, settle, results, Tryd.results24, go_sem, q0, q1, q2, q3, q4, qk]
        exact hfin
    | cons e es =>
      obtain ⟨sv, ys, hxs, ⟨hsv, hok⟩, hes⟩ : ∃ sv ys, xs = evHead e sv ++ ys ∧ (AR B wr sv e.attrs ∧ EvOk e) ∧ EvC B wr es ys := by
        have := HRR.out.2
        rw [hrd] at this
        exact this
      have HC : Hid (X = .ev e { s1 with ready := es }) := by rw [HX.out, ← HF.out, M.next_pop hrd]; exact rfl
      have hrr := HRR.out.1
      rw [hrd] at hrr c14
      rw [hrv, hrd] at hrr
      have HRR1 : Hid _ := hrr
      rcases hrr with ⟨_, h0, _⟩ | ⟨g, off, cap, hv', hBg, ⟨cur, hh, hsz⟩, hnc, hcm, hxl, hcell⟩
      · simp at h0
      simp at hv'
      obtain ⟨rfl, rfl⟩ := hv'
      have r0 : wr.cell? ⟨g, off, none⟩ = some (.int .i64 e.kind) := by have := hcell 0 (by simp); rw [hxs] at this; simpa [evHead] using this
      have r1 : wr.cell? ⟨g, off + 1, none⟩ = some (.int .i64 e.place) := by have := hcell 1 (by simp; omega); rw [hxs] at this; simpa [evHead] using this
      have r2 : wr.cell? ⟨g, off + 2, none⟩ = some (.string (sb e.name)) := by have := hcell 2 (by simp; omega); rw [hxs] at this; simpa [evHead] using this
      have r3 : wr.cell? ⟨g, off + 3, none⟩ = some (.string (sb e.text)) := by have := hcell 3 (by simp; omega); rw [hxs] at this; simpa [evHead] using this
      have r4 : wr.cell? ⟨g, off + 4, none⟩ = some sv := by have := hcell 4 (by simp; omega); rw [hxs] at this; simpa [evHead] using this
      have f14 := HFu.out.1.inn.ps.froz 14
      have HRD : Hid _ := hrd
      unfold maxLen at hcm
      simp at hnc
      have hrb : v1.ready.ownBlock = some g := by rw [hrv]; rfl
      have HRB : Hid (v1.ready.ownBlock = some g) := hrb
      have hgE : g ≠ w.heap.size + 1 := by
        rcases HFu.out.2.1.nr g hrb with x | x
        · have := HVB.out.r g x; omega
        · have e : (w3a w P).heap.size = w.heap.size + 1 + 1 + 1 := by simp
          omega
      have hrt := RR.tail (n := es.length) (xs := evHead e sv) (ys := ys) (by rw [← hxs]; exact HRR1.out) rfl
      obtain ⟨sa, scap, hsl⟩ := hsv.len
      have hres : (s1.ready.length ≤ 3) := HFu.out.1.rl
      have hel : es.length ≤ 3 := by rw [HRD.out] at hres; simp at hres; omega
      have hF1 := Full.ready (es := es) (xs := ys) HFu.out.1 (World.grownBy.refl wr _) hrt hes hel (fun k e => .inl (by rw [hrb]; split at e <;> exact e))
      have HF1 : Hid _ := hF1
      have HSV : Hid _ := And.intro hsv hok
      have hE1 : (wr.setCell ⟨P, 14, none⟩ (.slice (if rcap = 1 then some ⟨g, off, none⟩ else some ⟨g, off + 5, none⟩) es.length (rcap - 1))).heap[w.heap.size + 1]? = some (.cells zEv 35 (0, 0)) := (hset (by omega)).trans HFu.out.2.2.1.e
      have hK1 : (wr.setCell ⟨P, 14, none⟩ (.slice (if rcap = 1 then some ⟨g, off, none⟩ else some ⟨g, off + 5, none⟩) es.length (rcap - 1))).heap[w.heap.size + 1 + 1]? = some (.cells #[.bool false] 4 (0, 0)) := (hset (by omega)).trans HFu.out.2.2.1.k
      have HEK : Hid _ := And.intro hE1 hK1
      have hcw := (((((CW.refl (K := w.heap.size + 1 + 1) HFu.out.1.inn.ps HFu.out.2.2.1.e HFu.out.2.2.1.k).ev (i := 0) (x := .int .i64 e.kind) (by omega) (by omega) rfl).ev (i := 1) (x := .int .i64 e.place) (by omega) (by omega) rfl).ev (i := 2) (x := .string (sb e.name)) (by omega) (by omega) rfl).ev (i := 3) (x := .string (sb e.text)) (by omega) (by omega) rfl)
      have hcw2 := (hcw.ev (i := 4) (ce' := #[.int .i64 e.kind, .int .i64 e.place, .string (sb e.name), .string (sb e.text), sv]) (x := sv) (by omega) (by omega) rfl).p (i := 14) (v' := { v1 with ready := .slice (if rcap = 1 then some ⟨g, off, none⟩ else some ⟨g, off + 5, none⟩) es.length (rcap - 1) }) (x := .slice (if rcap = 1 then some ⟨g, off, none⟩ else some ⟨g, off + 5, none⟩) es.length (rcap - 1)) (by omega) (by omega) rfl
      have hcw3 := hcw2.drew
      have HCW : Hid _ := hcw3
      have hne5 : ∀ x : Option Addr, (Value.slice x es.length (rcap - 1)) = .slice x es.length (rcap - 1) := fun _ => rfl
      clear hrt hF1 hE1 hK1 hcw hcw2 hcw3 hsv hok hes hcell hxl hh hxs hne5 hrv hrb hrc hrm
      subst hsl
      clear hrd
      obtain ⟨ra, hra⟩ : ∃ ra, ra = (if rcap = 1 then some (⟨g, off, none⟩ : Addr) else some ⟨g, off + 5, none⟩) := ⟨_, rfl⟩
      obtain ⟨rc, hrc⟩ : ∃ rc, rc = rcap - 1 := ⟨_, rfl⟩
      rw [← hra, ← hrc] at HCW HF1 HEK
      have hrag : ∀ a n c, (Value.slice ra n c).ownBlock = some a → a = g := by
        intro a n c h
        rw [hra] at h
        split at h <;> (simp [Value.ownBlock] at h; exact h.symm)
      have HRA : Hid _ := hrag
      clear hrag
      have hcase : (rcap = 1 ∧ ra = some ⟨g, off, none⟩ ∧ rc = 0) ∨ (¬ rcap = 1 ∧ ra = some ⟨g, off + 5, none⟩ ∧ rc = rcap - 1) := by
        by_cases h1 : rcap = 1
        · left; exact ⟨h1, by rw [hra, if_pos h1], by omega⟩
        · right; exact ⟨h1, by rw [hra, if_neg h1], hrc⟩
      clear hra hrc
      rcases hcase with ⟨hc1, rfl, rfl⟩ | ⟨hc1, rfl, rfl⟩
      all_goals
        go_wp2_with fail
        go_region
        go_wp2_with fail
        have hcw := HCW.out
        have F7 := HF1.out.1.ext (E := w.heap.size + 1) (K := w.heap.size + 1 + 1) (Nat.le_trans (by simp [World.setCell]) hcw.size) (fun i _ h2 h3 => by
          by_cases hi : i = P
          · subst hi; exact hcw.ps.trans HF1.out.1.inn.ps.symm
          · exact (hcw.blk i hi h2 h3).trans (hset hi).symm) ⟨_, HEK.out.1⟩ ⟨_, HEK.out.2⟩ (fun a h => by have := HRA.out a _ _ h; omega)
        refine (count_s hcw.ps).mono ?_
        rintro e8 w8 ⟨rfl, d, m, hg8, hp8, hz8⟩
        have hcw8 := hcw.grown (by omega) (by omega) hg8 hp8 hz8
        have F8 := F7.1.dm hg8 hp8
        have hA8 : AR B w8 (.slice sa e.attrs.length scap) e.attrs := (ky_ps hcw.ps hg8 (by decide)).own (F7.2.own ((ky_pset HFu.out.1.inn.ps (by decide) _).own HSV.out.1))
        have HF8 : Hid _ := And.intro F8.1 (And.intro hcw8 hA8)
        have q0 : w8.cell? ⟨w.heap.size + 1, 0, none⟩ = some (.int .i64 e.kind) := Bk.cell (i := 0) hcw8.e
        have q1 : w8.cell? ⟨w.heap.size + 1, 1, none⟩ = some (.int .i64 e.place) := Bk.cell (i := 1) hcw8.e
        have q2 : w8.cell? ⟨w.heap.size + 1, 2, none⟩ = some (.string (sb e.name)) := Bk.cell (i := 2) hcw8.e
        have q3 : w8.cell? ⟨w.heap.size + 1, 3, none⟩ = some (.string (sb e.text)) := Bk.cell (i := 3) hcw8.e
        have q4 : w8.cell? ⟨w.heap.size + 1, 4, none⟩ = some (.slice sa e.attrs.length scap) := Bk.cell (i := 4) hcw8.e
        have y0 := Bk.froz (i := 0) hcw8.e
        have y1 := Bk.froz (i := 1) hcw8.e
        have y2 := Bk.froz (i := 2) hcw8.e
        have y3 := Bk.froz (i := 3) hcw8.e
        have y4 := Bk.froz (i := 4) hcw8.e
        have qk : w8.cell? ⟨w.heap.size + 1 + 1, 0, none⟩ = some (.bool false) := Bk.cell (i := 0) hcw8.k
        have yk := Bk.froz (i := 0) hcw8.k
        clear hcw F7 hcw8 F8 hA8 hg8 hp8 hz8
        go_wp2_with fail
        refine leaves_cons (f := 30) (args := #[.pointer (some ⟨w.heap.size, 0, none⟩), .pointer (some ⟨w.heap.size + 1, 0, none⟩), .pointer (some ⟨w.heap.size + 1 + 1, 0, none⟩)]) (by simp) (by simp [go_sem]) ?_
        refine (catch_idle _ _ _ _).mono ?_
        rintro e9 u' w9 ⟨rfl, rfl, rfl⟩
        have hz := (((((HF8.out.2.1.ev (i := 0) (x := .int .i64 e.kind) (by omega) (by omega) rfl).ev (i := 1) (x := .int .i64 e.place) (by omega) (by omega) rfl).ev (i := 2) (x := .string (sb e.name)) (by omega) (by omega) rfl).ev (i := 3) (x := .string (sb e.text)) (by omega) (by omega) rfl).ev (i := 4) (ce' := #[.int .i64 e.kind, .int .i64 e.place, .string (sb e.name), .string (sb e.text), .slice sa e.attrs.length scap]) (x := .slice sa e.attrs.length scap) (by omega) (by omega) rfl).kv (i := 0) (ck' := #[.bool true]) (x := .bool true) (by omega) (by omega) rfl
        have hz2 := (((((CW.refl (K := w.heap.size + 1 + 1) HF8.out.1.inn.ps HF8.out.2.1.e HF8.out.2.1.k).ev (i := 0) (x := .int .i64 e.kind) (by omega) (by omega) rfl).ev (i := 1) (x := .int .i64 e.place) (by omega) (by omega) rfl).ev (i := 2) (x := .string (sb e.name)) (by omega) (by omega) rfl).ev (i := 3) (x := .string (sb e.text)) (by omega) (by omega) rfl)
        have hz3 := (hz2.ev (i := 4) (x := .slice sa e.attrs.length scap) (by omega) (by omega) rfl).kv (i := 0) (ck' := #[.bool true]) (x := .bool true) (by omega) (by omega) rfl
        generalize (((((w8.setCell ⟨w.heap.size + 1, 0, none⟩ (.int .i64 e.kind)).setCell ⟨w.heap.size + 1, 1, none⟩ (.int .i64 e.place)).setCell ⟨w.heap.size + 1, 2, none⟩ (.string (sb e.name))).setCell ⟨w.heap.size + 1, 3, none⟩ (.string (sb e.text))).setCell ⟨w.heap.size + 1, 4, none⟩ (.slice sa e.attrs.length scap)).setCell ⟨w.heap.size + 1 + 1, 0, none⟩ (.bool true) = w9 at *
        have F9 := HF8.out.1.ext (E := w.heap.size + 1) (K := w.heap.size + 1 + 1) hz3.size (fun i _ h2 h3 => by
          by_cases hi : i = P
          · subst hi; exact hz3.ps.trans HF8.out.1.inn.ps.symm
          · exact hz3.blk i hi h2 h3) ⟨_, HF8.out.2.1.e⟩ ⟨_, HF8.out.2.1.k⟩ (fun a h => by have := HRA.out a _ _ h; omega)
        have z0 : w9.cell? ⟨w.heap.size + 1, 0, none⟩ = some (.int .i64 e.kind) := Bk.cell (i := 0) hz.e
        have z1 : w9.cell? ⟨w.heap.size + 1, 1, none⟩ = some (.int .i64 e.place) := Bk.cell (i := 1) hz.e
        have z2 : w9.cell? ⟨w.heap.size + 1, 2, none⟩ = some (.string (sb e.name)) := Bk.cell (i := 2) hz.e
        have z3 : w9.cell? ⟨w.heap.size + 1, 3, none⟩ = some (.string (sb e.text)) := Bk.cell (i := 3) hz.e
        have z4 : w9.cell? ⟨w.heap.size + 1, 4, none⟩ = some (.slice sa e.attrs.length scap) := Bk.cell (i := 4) hz.e
        have zk : w9.cell? ⟨w.heap.size + 1 + 1, 0, none⟩ = some (.bool true) := Bk.cell (i := 0) hz.k
        have hfin : NxP B P w v l L X (.returned (.tuple #[evV e (.slice sa e.attrs.length scap), .bool true])) w9 := by
          rw [HC.out]
          exact ⟨_, _, rfl, F9.2.own HF8.out.2.2, HSV.out.2, F9.1, Fr.cw HB3.out HFu.out.2.1 hz rfl (by omega) (by omega) rfl (by rw [HRB.out]; rfl) rfl⟩
        simp [Leaves, settle, results, Tryd.results24, go_sem, z0, z1, z2, z3, z4, zk]
        exact hfin
end Go.Proofs.YtjcgnbmpnaapdaaDoor
