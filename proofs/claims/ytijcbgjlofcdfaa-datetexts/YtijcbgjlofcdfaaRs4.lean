/- The program's ParseSpan. -/
import Derived.Test.YtijcbgjlofcdfaaRs3
namespace Go.Proofs.Ytijcbgjlofcdfaa
open Go.RowKit
set_option linter.unusedVariables false

abbrev sp0 : Sp := ⟨0, 0, 0⟩
def PsP (l : List Int) (w : World) (e : Ending) (w' : World) : Prop :=
  Below w.heap.size w w' ∧ e = .returned (.tuple #[spV ((spG sp0 l).getD sp0), .int .i64 (if (spG sp0 l).isSome then 0 else 2)])
theorem put3 {N : Nat} {w W : World} {X : Nat} {o0 o1 o2 : Value} {t : TypeId} (hb : Below N w W) (hX : N ≤ X) (hx : W.heap[X]? = some (.cells #[o0, o1, o2] t (0, 0))) (v0 v1 v2 : Value) :
    ∃ U, (((W.setCell ⟨X, 0, none⟩ v0).setCell ⟨X, 1, none⟩ v1).setCell ⟨X, 2, none⟩ v2) = U ∧ U.heap[X]? = some (.cells #[v0, v1, v2] t (0, 0)) ∧ Below N w U := by
  have x0 := bset (i := 0) hx v0
  simp only [List.setIfInBounds_toArray, List.set_cons_zero] at x0
  have x1 := bset (i := 1) x0 v1
  simp only [List.setIfInBounds_toArray, List.set_cons_zero, List.set_cons_succ] at x1
  have x2 := bset (i := 2) x1 v2
  simp only [List.setIfInBounds_toArray, List.set_cons_zero, List.set_cons_succ] at x2
  exact ⟨_, rfl, x2, ((hb.setCell (p := ⟨X, 0, none⟩) hX v0).setCell (p := ⟨X, 1, none⟩) hX v1).setCell (p := ⟨X, 2, none⟩) hX v2⟩
set_option maxHeartbeats 1000000 in
theorem parseSpan_p (s : ByteArray) (w : World) (hs : s.size ≤ maxLen) : Calls Try.prog 12 #[.string s] w (PsP (bl s) w) := by
  obtain ⟨x1, x2, hb0⟩ := box2 w (.cells (spC sp0) 32) (.cells (spC sp0) 32)
  have H0 : Hid _ := And.intro x1 (And.intro x2 hb0)
  clear x1 x2 hb0
  go_enter Try.func12, Try.ntmps12
  go_wp2_with fail
  generalize hU : ((w.alloc (.cells (spC sp0) 32)).alloc (.cells (spC sp0) 32)) = U at *
  clear hU
  refine Calls.mono (span_m _ _) ?_
  rintro e w1 ⟨b1, rfl, h1⟩
  have H1 : Hid _ := h1
  clear h1
  go_wp2_with fail
  obtain ⟨V, hV⟩ : ∃ V, (w1.alloc (.cells #[fnV (66, #[pt b1])] 69)) = V := ⟨_, rfl⟩
  rw [hV]
  have u1 : Below w1.heap.size w1 V := by rw [← hV]; exact (Below.refl _ _).alloc (Nat.le_refl _) _
  have hVx : V.heap[w1.heap.size]? = some (.cells #[fnV (66, #[pt b1])] 69 (0, 0)) := by rw [← hV]; exact nw_heap _ _
  clear hV
  have u0 := bl_step H1.out.bl u1
  have hDl := lt_of H0.out.2.1
  have hl := H1.out.l
  have hsz := H1.out.bl.size
  have hfc : FCs V (fun k => k = w.heap.size + 1) (StS (w.heap.size + 1)) [(66, #[pt b1])] [fun p l => (spG p l).map fun x => (x, [])] := .cons (fc_span (H1.out.at u1) (by omega)) .nil
  refine Calls.mono (whole_p hfc w1.heap.size hVx (by omega) (by simp) V sp0 s (Fro.refl _ _) ⟨(u0.block _ hDl).trans H0.out.2.1⟩ hs) ?_
  rintro e w2 ⟨b, p, rfl, hfr, hst, hT, hF⟩
  have xR : w2.heap[w.heap.size]? = some (.cells (spC sp0) 32 (0, 0)) := hfr.at ((u0.block _ (lt_of H0.out.1)).trans H0.out.1) (by omega)
  have fr2 : Below w.heap.size w w2 := H0.out.2.2.trans (((Fro.below (O := fun j => j = w.heap.size + 1) u0).trans hfr).toBelow (Nat.le_of_lt (lt_of H0.out.1)) (fun i hi q => by omega))
  have hr : runG [fun (p : Sp) l => (spG p l).map fun x => (x, [])] sp0 (bl s) = (spG sp0 (bl s)).map fun x => (x, []) := by
    simp only [runG]
    cases spG sp0 (bl s) <;> rfl
  rw [hr] at hT hF
  have h1 : b = true → spG sp0 (bl s) = some p := fun q => by
    have := hT q
    cases hg : spG sp0 (bl s) with
    | none => rw [hg] at this; cases this
    | some x => rw [hg] at this; cases this; rfl
  have h0 : b = false → spG sp0 (bl s) = none := fun q => by
    cases hg : spG sp0 (bl s) with
    | none => rfl
    | some x => rw [hg] at hF; exact absurd rfl (hF q (x, []) rfl)
  obtain ⟨r0, r1, r2⟩ := blk3 xR
  have t0 := (cl_at (i := 0) xR rfl).2
  have t1 := (cl_at (i := 1) xR rfl).2
  have t2 := (cl_at (i := 2) xR rfl).2
  obtain ⟨d0, d1, d2⟩ := blk3 hst.x
  have HX : Hid _ := And.intro xR (And.intro fr2 (And.intro h0 h1))
  clear xR fr2 h0 h1 hr hT hF hst hfr hfc u0 u1 hVx H0 H1 hDl hl hsz
  obtain ⟨po, ps, pn⟩ := p
  dsimp only at *
  cases b
  · have HR : Hid _ := HX.out.2.2.1 rfl
    go_wp2_with fail
    obtain ⟨U2, hU2, hx2, hb2⟩ := put3 (X := w.heap.size) HX.out.2.1 (Nat.le_refl _) HX.out.1 (.int .i64 0) (.int .i64 0) (.int .i64 0)
    rw [hU2]
    obtain ⟨q0, q1, q2⟩ := blk3 hx2
    refine bodyPost_ret (v := .tuple #[spV sp0, .int .i64 2]) (by simp [results, Try.results12, go_sem, q0, q1, q2]) rfl ⟨hb2, ?_⟩
    rw [HR.out]
    rfl
  · have HR : Hid _ := HX.out.2.2.2 rfl
    go_wp2_with fail
    obtain ⟨U2, hU2, hx2, hb2⟩ := put3 (X := w.heap.size) HX.out.2.1 (Nat.le_refl _) HX.out.1 (.int .i64 po) (.int .i64 ps) (.int .i64 pn)
    rw [hU2]
    obtain ⟨q0, q1, q2⟩ := blk3 hx2
    refine bodyPost_ret (v := .tuple #[spV ⟨po, ps, pn⟩, .int .i64 0]) (by simp [results, Try.results12, go_sem, q0, q1, q2]) rfl ⟨hb2, ?_⟩
    rw [HR.out]
    rfl
end Go.Proofs.Ytijcbgjlofcdfaa
