/- What the program's Parse tells: plain. -/
import Derived.Test.YtgaegajcejpmdaaGreatDoorHJ30
namespace Go.Proofs.YtgaegajcejpmdaaGreatDoor.Dt
set_option linter.unusedVariables false

/-- The last field, and what Parse does behind it. -/
def zf (k : Int) (a : Mo) (l : List Int) : Option Mo := (gZn a l).bind fun x => if ¬ (x.s = 86400 ∧ 0 < x.n) then some (addM (if k = 3 then { x with s := x.s.tmod 86400 } else x) ⟨0, 0, 0⟩) else none
theorem zf_dig (k : Int) : ∀ a l, Dig l → zf k a l = none := fun a l h => by unfold zf; rw [zn_dig h]; rfl
theorem zr_eq (l : List Int) : zR l = (inB 0 14 l.tail).bind fun h => (tkB 58 h.2).bind fun l1 => (inB 0 59 l1).bind fun n => if (h.1 = 14 ∧ 0 < n.1) ∨ n.2 ≠ [] then none else some (60 * h.1 + n.1) := by
  unfold zR g3
  simp only [runG, gMk, tkB]
  cases hh : inB 0 14 l.tail with
  | none => rfl
  | some h =>
    simp only [Option.map_some, Option.bind_some]
    split
    · simp only [Option.bind_some]
      cases hm : inB 0 59 h.2.tail with
      | none => rfl
      | some m =>
        simp only [Option.map_some, Option.bind_some]
        have b1 := in_in hh
        have b2 := in_in hm
        by_cases hq : m.2 = [] ∧ 60 * h.1 + m.1 ≤ 840
        · rw [if_pos hq, if_neg (fun p => p.elim (fun p => by omega) (fun p => p hq.1))]
        · rw [if_neg hq, if_pos]
          by_cases he : m.2 = []
          · left; have : ¬ 60 * h.1 + m.1 ≤ 840 := fun p => hq ⟨he, p⟩; omega
          · right; exact he
    · rfl
theorem gz_eq {a : Mo} (hz : a.hz = false) (h0 : a.z = 0) (l : List Int) : gZn a l = (znB l).map fun z => { a with hz := z.1, z := z.2 } := by
  unfold gZn znB
  by_cases hl : l = []
  · rw [if_pos hl, if_pos hl]
    simp only [Option.map_some]
    rw [← hz, ← h0]
  · rw [if_neg hl, if_neg hl]
    by_cases h9 : l = [90]
    · subst h9
      simp [h0]
    · rw [if_neg h9]
      by_cases hh : l.head? = some 90
      · rw [if_pos hh]
        have ht : l.tail ≠ [] := by
          intro q
          apply h9
          cases l with
          | nil => cases hh
          | cons c l => simp at hh q; rw [hh, q]
        rw [if_neg ht]
        cases hz2 : zR l with
        | none => rfl
        | some z =>
          rw [Option.bind_some, hh]
          simp
      · rw [if_neg hh, zr_eq]
        by_cases h4 : l.head? = some 45
        · rw [if_pos (Or.inl h4)]
          simp only [h4]
          cases inB 0 14 l.tail with
          | none => rfl
          | some h =>
            simp only [Option.bind_some]
            cases tkB 58 h.2 with
            | none => rfl
            | some l1 =>
              simp only [Option.bind_some]
              cases inB 0 59 l1 with
              | none => rfl
              | some n =>
                simp only [Option.bind_some]
                split <;> simp
        · by_cases h5 : l.head? = some 43
          · rw [if_pos (Or.inr h5)]
            simp only [h5]
            cases inB 0 14 l.tail with
            | none => rfl
            | some h =>
              simp only [Option.bind_some]
              cases tkB 58 h.2 with
              | none => rfl
              | some l1 =>
                simp only [Option.bind_some]
                cases inB 0 59 l1 with
                | none => rfl
                | some n =>
                  simp only [Option.bind_some]
                  split <;> simp
          · rw [if_neg (fun q => q.elim h4 h5)]
            simp only [Option.map_none]
            cases ((inB 0 14 l.tail).bind fun h => (tkB 58 h.2).bind fun l1 => (inB 0 59 l1).bind fun n => if (h.1 = 14 ∧ 0 < n.1) ∨ n.2 ≠ [] then none else some (60 * h.1 + n.1)) with
            | none => rfl
            | some z => rw [Option.bind_some, if_neg h4, if_neg h5]
/-- What has been read ahead of the zone. -/
structure Rdd (k : Int) (a : Mo) : Prop where
  y : a.y ≠ 0
  m0 : 1 ≤ a.m
  m1 : a.m ≤ 12
  d0 : 1 ≤ a.d
  d1 : a.d ≤ lenL (lnY a.y) a.m
  s0 : 0 ≤ a.s
  s1 : a.s ≤ 86400
  n0 : 0 ≤ a.n
  n1 : a.n < 1000000000
  kk : a.k = k
  ks : k = 1 ∨ k = 3 ∨ a.s = 0
  z : a.hz = false
  z0 : a.z = 0
theorem add_none {a : Mo} (h : MoOk a) : addM a ⟨0, 0, 0⟩ = a := by
  have e := add_days h 0
  refine mo_ext (MoOk.add _ _) h rfl ?_ ?_ ?_ rfl rfl
  · have := e.2.2; simpa using this
  · have := e.1; simpa using this
  · have := e.2.1; simpa using this
theorem nx_eq {k : Int} {a : Mo} (h : Rdd k a) (hn : ¬ (a.s = 86400 ∧ 0 < a.n)) (z : Bool × Int) : addM (if k = 3 then { ({ a with hz := z.1, z := z.2 } : Mo) with s := a.s.tmod 86400 } else { a with hz := z.1, z := z.2 }) ⟨0, 0, 0⟩ = nxM { a with hz := z.1, z := z.2 } := by
  obtain ⟨hy, m0, m1, d0, d1, s0, s1, n0, n1, kk, ks, hz, hz0⟩ := h
  obtain ⟨ka, y, m, d, s, n, hzz, zz⟩ := a
  dsimp only at *
  subst kk
  by_cases h24 : s = 86400
  · subst h24
    have hn0 : n = 0 := by omega
    subst hn0
    by_cases h3 : ka = 3
    · rw [if_pos h3]
      have e : (86400 : Int).tmod 86400 = 0 := by decide
      rw [e, add_none ⟨hy, m0, m1, d0, d1, by simp, by simp, by simp, by simp⟩]
      unfold nxM
      rw [if_pos rfl, if_neg (by dsimp only; omega)]
    · rw [if_neg h3]
      have h1 : ka = 1 := by omega
      subst h1
      obtain ⟨e1, e2, e3, e4⟩ := add_same (a := ⟨1, y, m, d, 86400, 0, z.1, z.2⟩) (s := 0) (n := 0) hy m0 m1 d1
      have hT : addT ⟨1, y, m, d, 86400, 0, z.1, z.2⟩ ⟨0, 0, 0⟩ = 86400 := by unfold addT; simp
      have hN : addN ⟨1, y, m, d, 86400, 0, z.1, z.2⟩ ⟨0, 0, 0⟩ = daysS y m d + 1 := by unfold addN; rw [e4, e2, e3, hT]; rfl
      unfold addM nxM
      rw [if_pos rfl, if_pos rfl, hN, hT]
      rfl
  · have hok : MoOk ⟨ka, y, m, d, s, n, z.1, z.2⟩ := ⟨hy, m0, m1, d0, d1, s0, by dsimp only; omega, n0, n1⟩
    have hE : (if ka = 3 then ({ k := ka, y := y, m := m, d := d, s := s.tmod 86400, n := n, hz := z.1, z := z.2 } : Mo) else { k := ka, y := y, m := m, d := d, s := s, n := n, hz := z.1, z := z.2 }) = ⟨ka, y, m, d, s, n, z.1, z.2⟩ := by
      have ht : s.tmod 86400 = s := by rw [tmod_pos (by omega) (by rw [Int.tmod_eq_emod_of_nonneg s0]; omega)]; omega
      rw [ht]
      split <;> rfl
    rw [hE, add_none hok]
    unfold nxM
    rw [if_neg h24]
theorem zf_eq {k : Int} {a : Mo} (h : Rdd k a) (l : List Int) : zf k a l = if a.s = 86400 ∧ 0 < a.n then none else (znB l).map fun z => nxM { a with hz := z.1, z := z.2 } := by
  unfold zf
  rw [gz_eq h.z h.z0]
  by_cases hb : a.s = 86400 ∧ 0 < a.n
  · rw [if_pos hb]
    cases znB l with
    | none => rfl
    | some z =>
      simp only [Option.map_some, Option.bind_some]
      rw [if_neg (by simpa using hb)]
  · rw [if_neg hb]
    cases znB l with
    | none => rfl
    | some z =>
      simp only [Option.map_some, Option.bind_some]
      rw [if_pos hb, nx_eq h hb z]
theorem zf_24 (k : Int) : ∀ a l, a.s = 86400 → 0 < a.n → zf k a l = none := fun a l h1 h2 => by
  unfold zf
  have : ∀ x, gZn a l = some x → x.s = a.s ∧ x.n = a.n := by
    intro x hx
    unfold gZn at hx
    split at hx
    · cases hx; exact ⟨rfl, rfl⟩
    · split at hx
      · cases hx; exact ⟨rfl, rfl⟩
      · obtain ⟨z, _, hx⟩ := Option.bind_eq_some_iff.1 hx
        split at hx
        · cases hx; exact ⟨rfl, rfl⟩
        · split at hx
          · cases hx; exact ⟨rfl, rfl⟩
          · cases hx
  cases hg : gZn a l with
  | none => rfl
  | some x =>
    obtain ⟨e1, e2⟩ := this x hg
    rw [Option.bind_some, if_neg (by rw [e1, e2]; simp [h1, h2])]
/-- The rows of fields with the last one and Parse's end. -/
theorem run_app {σ : Type} (gs : List (Gd σ)) (g : Gd σ) : ∀ (a : σ) (l : List Int), runG (gs ++ [g]) a l = (runG gs a l).bind fun x => g x.1 x.2 := by
  induction gs with
  | nil => intro a l; simp only [List.nil_append, runG, Option.bind_some]; cases g a l <;> rfl
  | cons h gs ih => intro a l; simp only [List.cons_append, runG, Option.bind_assoc]; exact obind fun x _ => ih x.1 x.2
theorem pa_zf {k : Int} {gs : List (Gd Mo)} (h : gK k = gs ++ [gZ]) (l : List Int) : paG k l = (runG gs (a0 k) l).bind fun x => zf k x.1 x.2 := by
  unfold paG
  rw [h, run_app, Option.bind_assoc]
  refine obind fun x _ => ?_
  unfold gZ zf
  cases gZn x.1 x.2 with
  | none => rfl
  | some y => simp
theorem mk_dig {σ : Type} {a : σ} {l : List Int} (h : Dig l) {c : Int} (hc : isD c = false) : gMk c a l = none := by unfold gMk; rw [if_neg (dig_ne h hc)]
theorem zf_fin {k y m d s n : Int} (hy : y ≠ 0) (m0 : 1 ≤ m) (m1 : m ≤ 12) (d0 : 1 ≤ d) (d1 : d ≤ lenL (lnY y) m) (s0 : 0 ≤ s) (s1 : s ≤ 86400) (n0 : 0 ≤ n) (n1 : n < 1000000000) (h24 : s = 86400 → n = 0) (ks : k = 1 ∨ k = 3 ∨ s = 0) (l : List Int) : zf k ⟨k, y, m, d, s, n, false, 0⟩ l = (znB l).map fun z => nxM ⟨k, y, m, d, s, n, z.1, z.2⟩ := by
  rw [zf_eq (k := k) (a := ⟨k, y, m, d, s, n, false, 0⟩) ⟨hy, m0, m1, d0, d1, s0, s1, n0, n1, rfl, ks, rfl, rfl⟩, if_neg (by dsimp only; omega)]
theorem pr_1 (l : List Int) : prM 1 l = (yrB l).bind fun v1 => (tkB 45 v1.2).bind fun v2 => (inB 1 12 v2).bind fun v3 => (tkB 45 v3.2).bind fun v4 => (inB 1 (lenL (lnY v1.1) v3.1) v4).bind fun v5 => (tkB 84 v5.2).bind fun v6 => (clB v6).bind fun v7 => (znB v7.2).map fun z => nxM ⟨1, v1.1, v3.1, v5.1, v7.1.1, v7.1.2, z.1, z.2⟩ := by
  unfold prM ftB mnB dyB ckB
  simp [Option.bind_assoc]
theorem pa_1 (l : List Int) : paG 1 l = prM 1 l := by
  rw [pr_1, pa_zf (k := 1) (gs := [gYr, gMk 45, gMo, gMk 45, gDy, gMk 84, gCl, gFr]) rfl]
  simp only [runG, Option.bind_assoc, Option.bind_some]
  refine (yr_bind (fun a l => (gMk 45 a l).bind fun x => (gMo x.1 x.2).bind fun x => (gMk 45 x.1 x.2).bind fun x => (gDy x.1 x.2).bind fun x => (gMk 84 x.1 x.2).bind fun x => (gCl x.1 x.2).bind fun x => (gFr x.1 x.2).bind fun x => zf 1 x.1 x.2) (fun a l h => by rw [mk_dig h (by decide)]; rfl) _ _).trans (obind fun v1 h1 => ?_)
  refine (mk_bind 45 (fun a l => (gMo a l).bind fun x => (gMk 45 x.1 x.2).bind fun x => (gDy x.1 x.2).bind fun x => (gMk 84 x.1 x.2).bind fun x => (gCl x.1 x.2).bind fun x => (gFr x.1 x.2).bind fun x => zf 1 x.1 x.2) _ _).trans (obind fun v2 h2 => ?_)
  refine (mo_bind (fun a l => (gMk 45 a l).bind fun x => (gDy x.1 x.2).bind fun x => (gMk 84 x.1 x.2).bind fun x => (gCl x.1 x.2).bind fun x => (gFr x.1 x.2).bind fun x => zf 1 x.1 x.2) _ _).trans (obind fun v3 h3 => ?_)
  refine (mk_bind 45 (fun a l => (gDy a l).bind fun x => (gMk 84 x.1 x.2).bind fun x => (gCl x.1 x.2).bind fun x => (gFr x.1 x.2).bind fun x => zf 1 x.1 x.2) _ _).trans (obind fun v4 h4 => ?_)
  refine (dy_bind (fun a l => (gMk 84 a l).bind fun x => (gCl x.1 x.2).bind fun x => (gFr x.1 x.2).bind fun x => zf 1 x.1 x.2) _ _).trans (obind fun v5 h5 => ?_)
  refine (mk_bind 84 (fun a l => (gCl a l).bind fun x => (gFr x.1 x.2).bind fun x => zf 1 x.1 x.2) _ _).trans (obind fun v6 h6 => ?_)
  refine (cl_bind (zf 1) (zf_dig 1) (zf_24 1) _ rfl _).trans (obind fun v7 h7 => ?_)
  obtain ⟨c0, c1, c2, c3, c4⟩ := cl_in h7
  exact zf_fin (k := 1) (y := v1.1) (m := v3.1) (d := v5.1) (yr_in h1).1 (in_in h3).1 (in_in h3).2 (in_in h5).1 (in_in h5).2 c0 c1 c2 c3 c4 (by simp) _
theorem pr_2 (l : List Int) : prM 2 l = (yrB l).bind fun v1 => (tkB 45 v1.2).bind fun v2 => (inB 1 12 v2).bind fun v3 => (tkB 45 v3.2).bind fun v4 => (inB 1 (lenL (lnY v1.1) v3.1) v4).bind fun v5 => (znB v5.2).map fun z => nxM ⟨2, v1.1, v3.1, v5.1, 0, 0, z.1, z.2⟩ := by
  unfold prM ftB mnB dyB ckB
  simp [Option.bind_assoc]
theorem pa_2 (l : List Int) : paG 2 l = prM 2 l := by
  rw [pr_2, pa_zf (k := 2) (gs := [gYr, gMk 45, gMo, gMk 45, gDy]) rfl]
  simp only [runG, Option.bind_assoc, Option.bind_some]
  refine (yr_bind (fun a l => (gMk 45 a l).bind fun x => (gMo x.1 x.2).bind fun x => (gMk 45 x.1 x.2).bind fun x => (gDy x.1 x.2).bind fun x => zf 2 x.1 x.2) (fun a l h => by rw [mk_dig h (by decide)]; rfl) _ _).trans (obind fun v1 h1 => ?_)
  refine (mk_bind 45 (fun a l => (gMo a l).bind fun x => (gMk 45 x.1 x.2).bind fun x => (gDy x.1 x.2).bind fun x => zf 2 x.1 x.2) _ _).trans (obind fun v2 h2 => ?_)
  refine (mo_bind (fun a l => (gMk 45 a l).bind fun x => (gDy x.1 x.2).bind fun x => zf 2 x.1 x.2) _ _).trans (obind fun v3 h3 => ?_)
  refine (mk_bind 45 (fun a l => (gDy a l).bind fun x => zf 2 x.1 x.2) _ _).trans (obind fun v4 h4 => ?_)
  refine (dy_bind (fun a l => zf 2 a l) _ _).trans (obind fun v5 h5 => ?_)
  exact zf_fin (k := 2) (y := v1.1) (m := v3.1) (d := v5.1) (yr_in h1).1 (in_in h3).1 (in_in h3).2 (in_in h5).1 (in_in h5).2 (by simp) (by simp) (by simp) (by simp) (by simp) (by simp) _
theorem pr_3 (l : List Int) : prM 3 l = (clB l).bind fun v1 => (znB v1.2).map fun z => nxM ⟨3, 2000, 1, 1, v1.1.1, v1.1.2, z.1, z.2⟩ := by
  unfold prM ftB mnB dyB ckB
  simp
theorem pa_3 (l : List Int) : paG 3 l = prM 3 l := by
  rw [pr_3, pa_zf (k := 3) (gs := [gCl, gFr]) rfl]
  simp only [runG, Option.bind_assoc, Option.bind_some]
  refine (cl_bind (zf 3) (zf_dig 3) (zf_24 3) _ rfl _).trans (obind fun v1 h1 => ?_)
  obtain ⟨c0, c1, c2, c3, c4⟩ := cl_in h1
  exact zf_fin (k := 3) (y := 2000) (m := 1) (d := 1) (by simp) (by simp) (by simp) (by simp) (by have := (len_in (l := lnY (2000)) (m := 1) (by simp) (by simp)).1; omega) c0 c1 c2 c3 c4 (by simp) _
theorem pr_4 (l : List Int) : prM 4 l = (yrB l).bind fun v1 => (tkB 45 v1.2).bind fun v2 => (inB 1 12 v2).bind fun v3 => (znB v3.2).map fun z => nxM ⟨4, v1.1, v3.1, 1, 0, 0, z.1, z.2⟩ := by
  unfold prM ftB mnB dyB ckB
  simp [Option.bind_assoc]
theorem pa_4 (l : List Int) : paG 4 l = prM 4 l := by
  rw [pr_4, pa_zf (k := 4) (gs := [gYr, gMk 45, gMo]) rfl]
  simp only [runG, Option.bind_assoc, Option.bind_some]
  refine (yr_bind (fun a l => (gMk 45 a l).bind fun x => (gMo x.1 x.2).bind fun x => zf 4 x.1 x.2) (fun a l h => by rw [mk_dig h (by decide)]; rfl) _ _).trans (obind fun v1 h1 => ?_)
  refine (mk_bind 45 (fun a l => (gMo a l).bind fun x => zf 4 x.1 x.2) _ _).trans (obind fun v2 h2 => ?_)
  refine (mo_bind (fun a l => zf 4 a l) _ _).trans (obind fun v3 h3 => ?_)
  exact zf_fin (k := 4) (y := v1.1) (m := v3.1) (d := 1) (yr_in h1).1 (in_in h3).1 (in_in h3).2 (by simp) (by have := (len_in (l := lnY (v1.1)) (m := v3.1) (in_in h3).1 (in_in h3).2).1; omega) (by simp) (by simp) (by simp) (by simp) (by simp) (by simp) _
theorem pr_5 (l : List Int) : prM 5 l = (yrB l).bind fun v1 => (znB v1.2).map fun z => nxM ⟨5, v1.1, 1, 1, 0, 0, z.1, z.2⟩ := by
  unfold prM ftB mnB dyB ckB
  simp
theorem pa_5 (l : List Int) : paG 5 l = prM 5 l := by
  rw [pr_5, pa_zf (k := 5) (gs := [gYr]) rfl]
  simp only [runG, Option.bind_assoc, Option.bind_some]
  refine (yr_bind (fun a l => zf 5 a l) (zf_dig 5) _ _).trans (obind fun v1 h1 => ?_)
  exact zf_fin (k := 5) (y := v1.1) (m := 1) (d := 1) (yr_in h1).1 (by simp) (by simp) (by simp) (by have := (len_in (l := lnY (v1.1)) (m := 1) (by simp) (by simp)).1; omega) (by simp) (by simp) (by simp) (by simp) (by simp) (by simp) _
theorem pr_6 (l : List Int) : prM 6 l = (tkB 45 l).bind fun v1 => (tkB 45 v1).bind fun v2 => (inB 1 12 v2).bind fun v3 => (tkB 45 v3.2).bind fun v4 => (inB 1 (lenL (lnY 2000) v3.1) v4).bind fun v5 => (znB v5.2).map fun z => nxM ⟨6, 2000, v3.1, v5.1, 0, 0, z.1, z.2⟩ := by
  unfold prM ftB mnB dyB ckB
  simp [Option.bind_assoc, Option.bind_map, Function.comp_def]
theorem pa_6 (l : List Int) : paG 6 l = prM 6 l := by
  rw [pr_6, pa_zf (k := 6) (gs := [gMk 45, gMk 45, gMo, gMk 45, gDy]) rfl]
  simp only [runG, Option.bind_assoc, Option.bind_some]
  refine (mk_bind 45 (fun a l => (gMk 45 a l).bind fun x => (gMo x.1 x.2).bind fun x => (gMk 45 x.1 x.2).bind fun x => (gDy x.1 x.2).bind fun x => zf 6 x.1 x.2) _ _).trans (obind fun v1 h1 => ?_)
  refine (mk_bind 45 (fun a l => (gMo a l).bind fun x => (gMk 45 x.1 x.2).bind fun x => (gDy x.1 x.2).bind fun x => zf 6 x.1 x.2) _ _).trans (obind fun v2 h2 => ?_)
  refine (mo_bind (fun a l => (gMk 45 a l).bind fun x => (gDy x.1 x.2).bind fun x => zf 6 x.1 x.2) _ _).trans (obind fun v3 h3 => ?_)
  refine (mk_bind 45 (fun a l => (gDy a l).bind fun x => zf 6 x.1 x.2) _ _).trans (obind fun v4 h4 => ?_)
  refine (dy_bind (fun a l => zf 6 a l) _ _).trans (obind fun v5 h5 => ?_)
  exact zf_fin (k := 6) (y := 2000) (m := v3.1) (d := v5.1) (by simp) (in_in h3).1 (in_in h3).2 (in_in h5).1 (in_in h5).2 (by simp) (by simp) (by simp) (by simp) (by simp) (by simp) _
theorem pr_7 (l : List Int) : prM 7 l = (tkB 45 l).bind fun v1 => (tkB 45 v1).bind fun v2 => (tkB 45 v2).bind fun v3 => (inB 1 (31) v3).bind fun v4 => (znB v4.2).map fun z => nxM ⟨7, 2000, 1, v4.1, 0, 0, z.1, z.2⟩ := by
  unfold prM ftB mnB dyB ckB
  simp [Option.bind_assoc, Option.bind_map, Function.comp_def]
theorem pa_7 (l : List Int) : paG 7 l = prM 7 l := by
  rw [pr_7, pa_zf (k := 7) (gs := [gMk 45, gMk 45, gMk 45, gDy]) rfl]
  simp only [runG, Option.bind_assoc, Option.bind_some]
  refine (mk_bind 45 (fun a l => (gMk 45 a l).bind fun x => (gMk 45 x.1 x.2).bind fun x => (gDy x.1 x.2).bind fun x => zf 7 x.1 x.2) _ _).trans (obind fun v1 h1 => ?_)
  refine (mk_bind 45 (fun a l => (gMk 45 a l).bind fun x => (gDy x.1 x.2).bind fun x => zf 7 x.1 x.2) _ _).trans (obind fun v2 h2 => ?_)
  refine (mk_bind 45 (fun a l => (gDy a l).bind fun x => zf 7 x.1 x.2) _ _).trans (obind fun v3 h3 => ?_)
  refine (dy_bind (fun a l => zf 7 a l) _ _).trans (obind fun v4 h4 => ?_)
  exact zf_fin (k := 7) (y := 2000) (m := 1) (d := v4.1) (by simp) (by simp) (by simp) (in_in h4).1 (in_in h4).2 (by simp) (by simp) (by simp) (by simp) (by simp) (by simp) _
theorem pr_8 (l : List Int) : prM 8 l = (tkB 45 l).bind fun v1 => (tkB 45 v1).bind fun v2 => (inB 1 12 v2).bind fun v3 => (znB v3.2).map fun z => nxM ⟨8, 2000, v3.1, 1, 0, 0, z.1, z.2⟩ := by
  unfold prM ftB mnB dyB ckB
  simp [Option.bind_assoc, Option.bind_map, Function.comp_def]
theorem pa_8 (l : List Int) : paG 8 l = prM 8 l := by
  rw [pr_8, pa_zf (k := 8) (gs := [gMk 45, gMk 45, gMo]) rfl]
  simp only [runG, Option.bind_assoc, Option.bind_some]
  refine (mk_bind 45 (fun a l => (gMk 45 a l).bind fun x => (gMo x.1 x.2).bind fun x => zf 8 x.1 x.2) _ _).trans (obind fun v1 h1 => ?_)
  refine (mk_bind 45 (fun a l => (gMo a l).bind fun x => zf 8 x.1 x.2) _ _).trans (obind fun v2 h2 => ?_)
  refine (mo_bind (fun a l => zf 8 a l) _ _).trans (obind fun v3 h3 => ?_)
  exact zf_fin (k := 8) (y := 2000) (m := v3.1) (d := 1) (by simp) (in_in h3).1 (in_in h3).2 (by simp) (by have := (len_in (l := lnY (2000)) (m := v3.1) (in_in h3).1 (in_in h3).2).1; omega) (by simp) (by simp) (by simp) (by simp) (by simp) (by simp) _
theorem pa_pr {k : Int} (h1 : 1 ≤ k) (h8 : k ≤ 8) (l : List Int) : paG k l = prM k l := by
  have hcases : k = 1 ∨ k = 2 ∨ k = 3 ∨ k = 4 ∨ k = 5 ∨ k = 6 ∨ k = 7 ∨ k = 8 := by omega
  rcases hcases with rfl | rfl | rfl | rfl | rfl | rfl | rfl | rfl
  · exact pa_1 l
  · exact pa_2 l
  · exact pa_3 l
  · exact pa_4 l
  · exact pa_5 l
  · exact pa_6 l
  · exact pa_7 l
  · exact pa_8 l
end Go.Proofs.YtgaegajcejpmdaaGreatDoor.Dt
