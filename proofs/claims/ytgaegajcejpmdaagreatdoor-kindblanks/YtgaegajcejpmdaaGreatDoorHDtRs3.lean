/- The program's closures: span. -/
import Derived.Test.YtgaegajcejpmdaaGreatDoorHJ32
namespace Go.Proofs.YtgaegajcejpmdaaGreatDoor.Dt
open Go.RowKit
set_option linter.unusedVariables false

/-- Cut at the first T. -/
def ctB (l : List Int) : List Int × List Int × Bool := if ix l = -1 then (l, [], false) else (l.take (ix l).toNat, l.drop ((ix l).toNat + 1), true)
theorem cut_t (s : ByteArray) (w : World) (hs : s.size ≤ maxLen) :
    Calls Tryz.prog 105 #[.string s, .string ⟨#[84]⟩] w fun e w' => ∃ (x y : ByteArray) (b : Bool), e = .returned (.tuple #[.string x, .string y, .bool b]) ∧ (bl x = (ctB (bl s)).1 ∧ bl y = (ctB (bl s)).2.1 ∧ b = (ctB (bl s)).2.2 ∧ x.size ≤ s.size ∧ y.size ≤ s.size ∧ Below w.heap.size w w') := by
  unfold ctB
  rcases ix_bd (bl s) with h | ⟨h0, h1⟩
  · refine Calls.mono (cut_no s w h) ?_
    rintro e w' ⟨rfl, rfl⟩
    refine ⟨_, _, _, rfl, ?_⟩
    rw [if_pos h]
    exact ⟨rfl, rfl, rfl, Nat.le_refl _, Nat.zero_le _, Below.refl _ _⟩
  · obtain ⟨k, hk⟩ := Int.eq_ofNat_of_zero_le h0
    rw [bl_len] at h1
    refine Calls.mono (cut_yes s k w hs hk) ?_
    rintro e w' ⟨rfl, hb⟩
    refine ⟨_, _, _, rfl, ?_⟩
    rw [if_neg (by omega), hk]
    refine ⟨?_, ?_, rfl, ?_, ?_, hb⟩
    · rw [bl_pre s k (by omega)]; rfl
    · rw [bl_suf]; rfl
    · rw [ByteArray.size_extract]; omega
    · rw [ByteArray.size_extract]; omega
def gsD : List (Gd Sp) := [gPo 89 12, gPo 77 1, gPs 68 86400]
def gsT : List (Gd Sp) := [gPs 72 3600, gPs 77 60, lpG]
theorem days_w {V0 w1 w2 w3 : World} {p1 p2 p3 p4 p5 p6 p7 p8 p9 D : Nat} {p : Sp} (h1 : PtB V0 w1 p1 p2 p3 ⟨#[89]⟩ (some ⟨D, 0, none⟩) 12) (h2 : PtB w1 w2 p4 p5 p6 ⟨#[77]⟩ (some ⟨D, 0, none⟩) 1) (h3 : PtB w2 w3 p7 p8 p9 ⟨#[68]⟩ (some ⟨D, 1, none⟩) 86400) (hst : StS D p V0) (r : ByteArray) (hr : r.size ≤ maxLen) :
    Calls Tryz.prog 113 #[.string r, .slice (some ⟨w3.heap.size, 0, none⟩) 3 3] (w3.alloc (.cells #[fnV (184, #[pt p1, pt p2, pt p3]), fnV (184, #[pt p4, pt p5, pt p6]), fnV (184, #[pt p7, pt p8, pt p9])] 138)) fun e w6 => ∃ (b : Bool) (p' : Sp), e = .returned (.bool b) ∧ (Fro (fun k => k = D) V0 w6 ∧ StS D p' w6 ∧ (b = true → runG gsD p (bl r) = some (p', [])) ∧ (b = false → ∀ x, runG gsD p (bl r) = some x → x.2 ≠ [])) := by
  obtain ⟨U, hU⟩ : ∃ U, (w3.alloc (.cells #[fnV (184, #[pt p1, pt p2, pt p3]), fnV (184, #[pt p4, pt p5, pt p6]), fnV (184, #[pt p7, pt p8, pt p9])] 138)) = U := ⟨_, rfl⟩
  rw [hU]
  have u3 : Below w3.heap.size w3 U := by rw [← hU]; exact (Below.refl _ _).alloc (Nat.le_refl _) _
  have hUx : U.heap[w3.heap.size]? = some (.cells #[fnV (184, #[pt p1, pt p2, pt p3]), fnV (184, #[pt p4, pt p5, pt p6]), fnV (184, #[pt p7, pt p8, pt p9])] 138 (0, 0)) := by rw [← hU]; exact nw_heap _ _
  clear hU
  have u2 := bl_step h3.bl u3
  have u1 := bl_step h2.bl u2
  have u0 := bl_step h1.bl u1
  have s1 := h1.bl.size
  have s2 := h2.bl.size
  have s3 := h3.bl.size
  have hDl := lt_of hst.x
  have hfc : FCs U (fun k => k = D) (StS D) [(184, #[pt p1, pt p2, pt p3]), (184, #[pt p4, pt p5, pt p6]), (184, #[pt p7, pt p8, pt p9])] gsD :=
    .cons (h1.fo u1 (by omega) (by omega) (by omega)) (.cons (h2.fo u2 (by omega) (by omega) (by omega)) (.cons (h3.fs u3 (by omega) (by omega) (by omega)) .nil))
  refine Calls.mono (whole_p hfc w3.heap.size hUx (by omega) (by simp) U p r (Fro.refl _ _) ⟨(u0.block _ hDl).trans hst.x⟩ hr) ?_
  rintro e w6 ⟨b, p', rfl, hfr, hst6, hT, hF⟩
  exact ⟨b, p', rfl, (Fro.below u0).trans' hfr (fun i hi q => q), hst6, hT, hF⟩
theorem times_w {V0 w1 w2 w3 : World} {p1 p2 p3 p4 p5 p6 p7 D : Nat} {p : Sp} (h1 : PtB V0 w1 p1 p2 p3 ⟨#[72]⟩ (some ⟨D, 1, none⟩) 3600) (h2 : PtB w1 w2 p4 p5 p6 ⟨#[77]⟩ (some ⟨D, 1, none⟩) 60) (h3 : MkB w2 w3 p7 (.pointer (some ⟨D, 0, none⟩)) 140) (hst : StS D p V0) (r : ByteArray) (hr : r.size ≤ maxLen) :
    Calls Tryz.prog 113 #[.string r, .slice (some ⟨w3.heap.size, 0, none⟩) 3 3] (w3.alloc (.cells #[fnV (184, #[pt p1, pt p2, pt p3]), fnV (184, #[pt p4, pt p5, pt p6]), fnV (186, #[pt p7])] 138)) fun e w6 => ∃ (b : Bool) (p' : Sp), e = .returned (.bool b) ∧ (Fro (fun k => k = D) V0 w6 ∧ StS D p' w6 ∧ (b = true → runG gsT p (bl r) = some (p', [])) ∧ (b = false → ∀ x, runG gsT p (bl r) = some x → x.2 ≠ [])) := by
  obtain ⟨U, hU⟩ : ∃ U, (w3.alloc (.cells #[fnV (184, #[pt p1, pt p2, pt p3]), fnV (184, #[pt p4, pt p5, pt p6]), fnV (186, #[pt p7])] 138)) = U := ⟨_, rfl⟩
  rw [hU]
  have u3 : Below w3.heap.size w3 U := by rw [← hU]; exact (Below.refl _ _).alloc (Nat.le_refl _) _
  have hUx : U.heap[w3.heap.size]? = some (.cells #[fnV (184, #[pt p1, pt p2, pt p3]), fnV (184, #[pt p4, pt p5, pt p6]), fnV (186, #[pt p7])] 138 (0, 0)) := by rw [← hU]; exact nw_heap _ _
  clear hU
  have u2 := bl_step h3.bl u3
  have u1 := bl_step h2.bl u2
  have u0 := bl_step h1.bl u1
  have s1 := h1.bl.size
  have s2 := h2.bl.size
  have s3 := h3.bl.size
  have hDl := lt_of hst.x
  have hl3 := h3.l
  have hfc : FCs U (fun k => k = D) (StS D) [(184, #[pt p1, pt p2, pt p3]), (184, #[pt p4, pt p5, pt p6]), (186, #[pt p7])] gsT :=
    .cons (h1.fs u1 (by omega) (by omega) (by omega)) (.cons (h2.fs u2 (by omega) (by omega) (by omega)) (.cons (fc_last (h3.at u3) (by omega)) .nil))
  refine Calls.mono (whole_p hfc w3.heap.size hUx (by omega) (by simp) U p r (Fro.refl _ _) ⟨(u0.block _ hDl).trans hst.x⟩ hr) ?_
  rintro e w6 ⟨b, p', rfl, hfr, hst6, hT, hF⟩
  exact ⟨b, p', rfl, (Fro.below u0).trans' hfr (fun i hi q => q), hst6, hT, hF⟩
/-- What is left behind the sign; behind the P. -/
def sgB (l : List Int) : List Int := if l.head? = some 45 then l.tail else l
def spP (l : List Int) : List Int := if l.head? = some 80 then l.tail else l
def ngP (neg : Bool) (p : Sp) : Sp := if neg then ⟨wr (-p.o), wr (-p.s), wr (-p.n)⟩ else p
def spG (p : Sp) (l : List Int) : Option Sp :=
  if ¬ (sgB l).head? = some 80 ∨ spP (sgB l) = [] ∨ ((ctB (spP (sgB l))).2.2 = true ∧ (ctB (spP (sgB l))).2.1 = []) then none
  else (runG gsD p (ctB (spP (sgB l))).1).bind fun x => if x.2 ≠ [] then none else (runG gsT x.1 (ctB (spP (sgB l))).2.1).bind fun y => if y.2 ≠ [] then none else some (ngP (decide (l.head? = some 45)) y.1)
def SnP (s : ByteArray) (D : Nat) (p : Sp) (W : World) (e : Ending) (W' : World) : Prop :=
  ∃ (b : Bool) (p' : Sp), e = .returned (.tuple #[.string ⟨#[]⟩, .bool b]) ∧ Fro (fun k => k = D) W W' ∧ W'.heap[D]? = some (.cells (spC p') 38 (0, 0)) ∧ (match spG p (bl s) with | some x => b = true ∧ p' = x | none => b = false)
set_option maxHeartbeats 1000000 in
theorem span_c (s : ByteArray) (b1 D : Nat) (p : Sp) (W : World) (h1 : W.heap[b1]? = some (.cells #[.pointer (some ⟨D, 0, none⟩)] 140 (0, 0))) (hD : W.heap[D]? = some (.cells (spC p) 38 (0, 0))) (n1 : D ≠ b1) (hs : s.size ≤ maxLen) :
    Calls Tryz.prog 155 #[.string s, pt b1] W (SnP s D p W) := by
  have m1 := cp_p s 45 W hs
  have e45 : ((45 : UInt8).toNat : Int) = 45 := rfl
  rw [e45] at m1
  obtain ⟨r1, hr1⟩ : ∃ r, (if (bl s).head? = some 45 then s.extract 1 s.size else s) = r := ⟨_, rfl⟩
  have hb1 : bl r1 = sgB (bl s) := by
    rw [← hr1]; unfold sgB
    split
    · rw [bl_ext, List.drop_one]
    · rfl
  have hz1 : r1.size ≤ s.size := by
    rw [← hr1]
    split
    · rw [ByteArray.size_extract]; omega
    · omega
  rw [hr1] at m1
  clear hr1 e45
  have m2 := cp_p r1 80 W (by omega)
  have e80 : ((80 : UInt8).toNat : Int) = 80 := rfl
  rw [e80] at m2
  obtain ⟨r2, hr2⟩ : ∃ r, (if (bl r1).head? = some 80 then r1.extract 1 r1.size else r1) = r := ⟨_, rfl⟩
  have hb2 : bl r2 = spP (bl r1) := by
    rw [← hr2]; unfold spP
    split
    · rw [bl_ext, List.drop_one]
    · rfl
  have hz2 : r2.size ≤ s.size := by
    rw [← hr2]
    split
    · rw [ByteArray.size_extract]; omega
    · omega
  rw [hr2] at m2
  clear hr2 e80
  have m3 := cut_t r2 W (by omega)
  have hG : spG p (bl s) = if ¬ (bl r1).head? = some 80 ∨ bl r2 = [] ∨ ((ctB (bl r2)).2.2 = true ∧ (ctB (bl r2)).2.1 = []) then none
      else (runG gsD p (ctB (bl r2)).1).bind fun x => if x.2 ≠ [] then none else (runG gsT x.1 (ctB (bl r2)).2.1).bind fun y => if y.2 ≠ [] then none else some (ngP (decide ((bl s).head? = some 45)) y.1) := by
    unfold spG; rw [hb2, hb1]
  obtain ⟨neg, hneg⟩ : ∃ neg, decide ((bl s).head? = some 45) = neg := ⟨_, rfl⟩
  rw [hneg] at m1 hG
  obtain ⟨ok, hok⟩ : ∃ ok, decide ((bl r1).head? = some 80) = ok := ⟨_, rfl⟩
  have hok2 : (bl r1).head? = some 80 ↔ ok = true := by rw [← hok]; simp
  rw [hok] at m2
  have hG0 : ok = false ∨ bl r2 = [] ∨ ((ctB (bl r2)).2.2 = true ∧ (ctB (bl r2)).2.1 = []) → spG p (bl s) = none := fun q => by
    rw [hG, if_pos (q.elim (fun q => .inl (fun e => by rw [hok2] at e; rw [e] at q; cases q)) .inr)]
  have hG1 : ok = true → bl r2 ≠ [] → ¬ ((ctB (bl r2)).2.2 = true ∧ (ctB (bl r2)).2.1 = []) → spG p (bl s) = (runG gsD p (ctB (bl r2)).1).bind fun x => if x.2 ≠ [] then none else (runG gsT x.1 (ctB (bl r2)).2.1).bind fun y => if y.2 ≠ [] then none else some (ngP neg y.1) := fun q1 q2 q3 => by
    rw [hG, if_neg (fun q => q.elim (fun q => q (hok2.2 q1)) (fun q => q.elim q2 q3))]
  have hG := And.intro hG0 hG1
  clear hneg hok hok2 hb1 hb2 hG0 hG1
  have HM : Hid _ := And.intro m1 (And.intro m2 m3)
  have HH : Hid _ := And.intro h1 (And.intro hD (And.intro hs (And.intro hz2 hG)))
  have hb1l := lt_of h1
  have hDl := lt_of hD
  clear m1 m2 m3 h1 hD hG
  go_enter Tryz.func155, Tryz.ntmps155
  go_wp2_with (first | (go_at_call 156; with_reducible refine Calls.mono HM.out.1 ?_; rintro e w' ⟨rfl, hw⟩; have hw2 := hw.symm; clear hw; subst hw2) | (go_at_call 156; with_reducible refine Calls.mono HM.out.2.1 ?_; rintro e w' ⟨rfl, hw⟩; have hw2 := hw.symm; clear hw; subst hw2))
  refine Calls.mono HM.out.2.2 ?_
  rintro e w1 ⟨dy, tm, b3, rfl, hdy, htm, hb3, hzd, hzt, hbw⟩
  have hG := HH.out.2.2.2.2
  rw [← hdy, ← htm, ← hb3] at hG
  have x1 : w1.heap[b1]? = some (.cells #[.pointer (some ⟨D, 0, none⟩)] 140 (0, 0)) := (hbw.block _ hb1l).trans HH.out.1
  have xD : w1.heap[D]? = some (.cells (spC p) 38 (0, 0)) := (hbw.block _ hDl).trans HH.out.2.1
  have hmd : dy.size ≤ maxLen := by have := HH.out.2.2.1; have := HH.out.2.2.2.1; omega
  have hmt : tm.size ≤ maxLen := by have := HH.out.2.2.1; have := HH.out.2.2.2.1; omega
  have H1 : Hid _ := And.intro x1 (And.intro xD (And.intro hbw (And.intro hG (And.intro hmd hmt))))
  clear x1 xD hbw hG hmd hmt hdy htm hb3 hzd hzt HM HH hz2 hz1
  obtain ⟨hG0, hG1⟩ := H1.out.2.2.2.1
  have HG0 : Hid _ := hG0
  have HG1 : Hid _ := hG1
  clear hG0 hG1
  cases ok
  · go_wp2_with fail
    go_ret2
    refine ⟨false, p, rfl, Fro.below H1.out.2.2.1, H1.out.2.1, ?_⟩
    rw [HG0.out (by simp)]
  by_cases h20 : r2.size = 0
  · have hq := tl_ee h20
    go_wp2_with fail
    go_ret2
    refine ⟨false, p, rfl, Fro.below H1.out.2.2.1, H1.out.2.1, ?_⟩
    rw [HG0.out (.inr (.inl (bl_nil h20)))]
  have hq2 := tl_nn (show 0 < r2.size by omega)
  have hne2 : bl r2 ≠ [] := fun q => by have := bl_len r2; rw [q] at this; simp at this; omega
  by_cases h3 : b3 = true ∧ tm.size = 0
  · obtain ⟨rfl, h30⟩ := h3
    have hq3 := tl_ee h30
    have HX : Hid _ := HG0.out (.inr (.inr ⟨rfl, bl_nil h30⟩))
    clear HG0 HG1 hne2
    go_wp2_with fail
    go_ret2
    refine ⟨false, p, rfl, Fro.below H1.out.2.2.1, H1.out.2.1, ?_⟩
    rw [HX.out]
  have HE : Hid _ := HG1.out rfl hne2 (fun q => h3 ⟨q.1, by have := bl_len tm; rw [q.2] at this; simpa using this.symm⟩)
  clear HG0 HG1 hne2
  have hcase : b3 = false ∨ (b3 = true ∧ (tm.toList == []) = false) := by
    cases b3
    · exact .inl rfl
    · exact .inr ⟨rfl, tl_nn (by have : ¬ tm.size = 0 := fun q => h3 ⟨rfl, q⟩; omega)⟩
  clear h3
  have g1 := cl1 H1.out.1
  rcases hcase with rfl | ⟨rfl, hq3⟩
  · go_wp2_with fail
    have HB0 : Hid (Below w1.heap.size w1 w1.drew) := below_drewN 1
    have hst0 : StS D p w1.drew := ⟨H1.out.2.1⟩
    have HZ : Hid _ := And.intro hst0 trivial
    clear hst0
    have hb1w : b1 < w1.heap.size := lt_of H1.out.1
    have hDw : D < w1.heap.size := lt_of H1.out.2.1
    have g1d : w1.drew.cell? ⟨b1, 0, none⟩ = some (.pointer (some ⟨D, 0, none⟩)) := g1
    clear g1
    go_region_held3 (fun X => X.cell? ⟨b1, 0, none⟩ = some (.pointer (some ⟨D, 0, none⟩))) (first | exact g1d | exact g1 | exact g1' | fail) (first
      | (go_at_call 157; (with_reducible refine Calls.mono (part_m ⟨#[89]⟩ 12 _ _) ?_); rintro e w2 ⟨p1, p2, p3, rfl, h2⟩; have H2 : Hid _ := And.intro h2 (HB0.out.trans (h2.bl.mono HB0.out.size)); clear h2 g1d; have g1 := cl1 ((H2.out.2.block _ hb1w).trans H1.out.1))
      | (go_at_call 157; (with_reducible refine Calls.mono (part_m ⟨#[77]⟩ 1 _ _) ?_); rintro e w3 ⟨p4, p5, p6, rfl, h2⟩; have H3 : Hid _ := And.intro h2 (H2.out.2.trans (h2.bl.mono H2.out.2.size)); clear h2 g1; have g1 := cl1 ((H3.out.2.block _ hb1w).trans H1.out.1))
      | (go_at_call 157; (with_reducible refine Calls.mono (part_m ⟨#[68]⟩ 86400 _ _) ?_); rintro e w4 ⟨p7, p8, p9, rfl, h2⟩; have H4 : Hid _ := And.intro h2 (H3.out.2.trans (h2.bl.mono H3.out.2.size)); clear h2 g1; have g1 := cl1 ((H4.out.2.block _ hb1w).trans H1.out.1); have g1' : (w4.alloc (.cells #[fnV (184, #[pt p1, pt p2, pt p3]), fnV (184, #[pt p4, pt p5, pt p6]), fnV (184, #[pt p7, pt p8, pt p9])] 138)).cell? ⟨b1, 0, none⟩ = some (.pointer (some ⟨D, 0, none⟩)) := (Below.cell (p := ⟨b1, 0, none⟩) ((Below.refl w4.heap.size w4).alloc (Nat.le_refl _) _) (Nat.lt_of_lt_of_le hb1w H4.out.2.size)).trans g1)
      | (go_at_call 113; (refine Calls.mono (days_w H2.out.1 H3.out.1 H4.out.1 HZ.out.1 _ H1.out.2.2.2.2.1) ?_); rintro e w5 ⟨b, p', rfl, h8⟩; have H5 : Hid _ := And.intro h8 trivial; clear g1; have g1 : w5.cell? ⟨b1, 0, none⟩ = some (.pointer (some ⟨D, 0, none⟩)) := cl1 (h8.1.at (show w1.drew.heap[b1]? = _ from H1.out.1) (fun q => n1 q.symm)); clear h8)
      | fail)
    have fr5 : Fro (fun k => k = D) W w5 := (Fro.below H1.out.2.2.1).trans (show Fro (fun k => k = D) w1 w5 from ⟨H5.out.1.1.os, H5.out.1.1.tape, H5.out.1.1.output, H5.out.1.1.size, H5.out.1.1.block⟩)
    have x5 : w5.heap[b1]? = some (.cells #[.pointer (some ⟨D, 0, none⟩)] 140 (0, 0)) := H5.out.1.1.at (show w1.drew.heap[b1]? = _ from H1.out.1) (fun q => n1 q.symm)
    have H6 : Hid _ := And.intro fr5 (And.intro x5 H5.out.1.2)
    clear fr5 x5 g1' H2 H3 H4 H5 HZ HB0
    cases b
    · go_wp2_with fail
      go_ret2
      refine ⟨false, p', rfl, H6.out.1, H6.out.2.2.1.x, ?_⟩
      have hF := H6.out.2.2.2.2 (by first | rfl | trivial)
      rw [HE.out]
      cases hr : runG gsD p (bl dy) with
      | none => rfl
      | some x => rw [Option.bind_some, if_pos (hF x hr)]
    go_wp2_with fail
    have hrun := H6.out.2.2.2.1 (by first | rfl | trivial)
    have hE2 := HE.out
    rw [hrun, Option.bind_some, if_neg (by simp)] at hE2
    have HE2 : Hid _ := hE2
    clear hE2 hrun HE
    have HB0 : Hid (Below w5.heap.size w5 w5.drew) := below_drewN 1
    have hst0 : StS D p' w5.drew := ⟨H6.out.2.2.1.x⟩
    have HZ : Hid _ := And.intro hst0 trivial
    have hb1w5 : b1 < w5.heap.size := lt_of H6.out.2.1
    have g1d : w5.drew.cell? ⟨b1, 0, none⟩ = some (.pointer (some ⟨D, 0, none⟩)) := g1
    clear hst0 g1
    go_region_held3 (fun X => X.cell? ⟨b1, 0, none⟩ = some (.pointer (some ⟨D, 0, none⟩))) (first | exact g1d | exact g1 | exact g1' | fail) (first
      | (go_at_call 157; (with_reducible refine Calls.mono (part_m ⟨#[72]⟩ 3600 _ _) ?_); rintro e w6 ⟨p1, p2, p3, rfl, h2⟩; have H2 : Hid _ := And.intro h2 (HB0.out.trans (h2.bl.mono HB0.out.size)); clear h2 g1d; have g1 := cl1 ((H2.out.2.block _ hb1w5).trans H6.out.2.1))
      | (go_at_call 157; (with_reducible refine Calls.mono (part_m ⟨#[77]⟩ 60 _ _) ?_); rintro e w7 ⟨p4, p5, p6, rfl, h2⟩; have H3 : Hid _ := And.intro h2 (H2.out.2.trans (h2.bl.mono H2.out.2.size)); clear h2 g1; have g1 := cl1 ((H3.out.2.block _ hb1w5).trans H6.out.2.1))
      | (go_at_call 158; (with_reducible refine Calls.mono (last_m _ _) ?_); rintro e w8 ⟨p7, rfl, h2⟩; have H4 : Hid _ := And.intro h2 (H3.out.2.trans (h2.bl.mono H3.out.2.size)); clear h2 g1; have g1 := cl1 ((H4.out.2.block _ hb1w5).trans H6.out.2.1); have g1' : (w8.alloc (.cells #[fnV (184, #[pt p1, pt p2, pt p3]), fnV (184, #[pt p4, pt p5, pt p6]), fnV (186, #[pt p7])] 138)).cell? ⟨b1, 0, none⟩ = some (.pointer (some ⟨D, 0, none⟩)) := (Below.cell (p := ⟨b1, 0, none⟩) ((Below.refl w8.heap.size w8).alloc (Nat.le_refl _) _) (Nat.lt_of_lt_of_le hb1w5 H4.out.2.size)).trans g1)
      | (go_at_call 113; (refine Calls.mono (times_w H2.out.1 H3.out.1 H4.out.1 HZ.out.1 _ H1.out.2.2.2.2.2) ?_); rintro e w9 ⟨b', p'', rfl, h8⟩; have H5 : Hid _ := And.intro h8 trivial; clear g1; have g1 : w9.cell? ⟨b1, 0, none⟩ = some (.pointer (some ⟨D, 0, none⟩)) := cl1 (h8.1.at (show w5.drew.heap[b1]? = _ from H6.out.2.1) (fun q => n1 q.symm)); clear h8)
      | fail)
    have fr9 : Fro (fun k => k = D) W w9 := H6.out.1.trans (show Fro (fun k => k = D) w5 w9 from ⟨H5.out.1.1.os, H5.out.1.1.tape, H5.out.1.1.output, H5.out.1.1.size, H5.out.1.1.block⟩)
    have H7 : Hid _ := And.intro fr9 H5.out.1.2
    clear fr9 g1' H2 H3 H4 H5 HZ HB0
    cases b'
    · go_wp2_with fail
      go_ret2
      refine ⟨false, p'', rfl, H7.out.1, H7.out.2.1.x, ?_⟩
      have hF := H7.out.2.2.2 (by first | rfl | trivial)
      rw [HE2.out]
      cases hr : runG gsT p' (bl tm) with
      | none => rfl
      | some x => rw [Option.bind_some, if_pos (hF x hr)]
    have hrun2 := H7.out.2.2.1 (by first | rfl | trivial)
    have hE3 := HE2.out
    rw [hrun2, Option.bind_some, if_neg (by simp)] at hE3
    have HE3 : Hid _ := hE3
    clear hE3 hrun2 HE2
    cases neg
    · go_wp2_with fail
      go_ret2
      refine ⟨true, p'', rfl, H7.out.1, H7.out.2.1.x, ?_⟩
      rw [HE3.out]
      exact ⟨rfl, rfl⟩
    obtain ⟨po, ps, pn⟩ := p''
    have x9 := H7.out.2.1.x
    obtain ⟨d0, d1, d2⟩ := blk3 x9
    have t0 := (cl_at (i := 0) x9 rfl).2
    have t1 := (cl_at (i := 1) x9 rfl).2
    have t2 := (cl_at (i := 2) x9 rfl).2
    dsimp only at d0 d1 d2
    have xA : (((w9.setCell ⟨D, 0, none⟩ (.int .i64 (wr (-po)))).setCell ⟨D, 1, none⟩ (.int .i64 (wr (-ps)))).setCell ⟨D, 2, none⟩ (.int .i64 (wr (-pn)))).heap[D]? = some (.cells (spC ⟨wr (-po), wr (-ps), wr (-pn)⟩) 38 (0, 0)) := bset (i := 2) (bset (i := 1) (bset (i := 0) x9 (.int .i64 (wr (-po)))) (.int .i64 (wr (-ps)))) (.int .i64 (wr (-pn)))
    have fA := ((H7.out.1.set (X := D) (i := 0) (.inl rfl) (.int .i64 (wr (-po)))).set (X := D) (i := 1) (.inl rfl) (.int .i64 (wr (-ps)))).set (X := D) (i := 2) (.inl rfl) (.int .i64 (wr (-pn)))
    have HA : Hid _ := And.intro xA fA
    clear xA fA x9 H1 H6 H7 hG
    go_wp2_with fail
    go_region
    all_goals
      go_wp2_with fail
      go_ret2
      refine ⟨true, ⟨wr (-po), wr (-ps), wr (-pn)⟩, rfl, HA.out.2.drewN 1, HA.out.1, ?_⟩
      rw [HE3.out]
      exact ⟨rfl, rfl⟩
  · go_wp2_with fail
    have HB0 : Hid (Below w1.heap.size w1 w1.drew) := below_drewN 1
    have hst0 : StS D p w1.drew := ⟨H1.out.2.1⟩
    have HZ : Hid _ := And.intro hst0 trivial
    clear hst0
    have hb1w : b1 < w1.heap.size := lt_of H1.out.1
    have hDw : D < w1.heap.size := lt_of H1.out.2.1
    have g1d : w1.drew.cell? ⟨b1, 0, none⟩ = some (.pointer (some ⟨D, 0, none⟩)) := g1
    clear g1
    go_region_held3 (fun X => X.cell? ⟨b1, 0, none⟩ = some (.pointer (some ⟨D, 0, none⟩))) (first | exact g1d | exact g1 | exact g1' | fail) (first
      | (go_at_call 157; (with_reducible refine Calls.mono (part_m ⟨#[89]⟩ 12 _ _) ?_); rintro e w2 ⟨p1, p2, p3, rfl, h2⟩; have H2 : Hid _ := And.intro h2 (HB0.out.trans (h2.bl.mono HB0.out.size)); clear h2 g1d; have g1 := cl1 ((H2.out.2.block _ hb1w).trans H1.out.1))
      | (go_at_call 157; (with_reducible refine Calls.mono (part_m ⟨#[77]⟩ 1 _ _) ?_); rintro e w3 ⟨p4, p5, p6, rfl, h2⟩; have H3 : Hid _ := And.intro h2 (H2.out.2.trans (h2.bl.mono H2.out.2.size)); clear h2 g1; have g1 := cl1 ((H3.out.2.block _ hb1w).trans H1.out.1))
      | (go_at_call 157; (with_reducible refine Calls.mono (part_m ⟨#[68]⟩ 86400 _ _) ?_); rintro e w4 ⟨p7, p8, p9, rfl, h2⟩; have H4 : Hid _ := And.intro h2 (H3.out.2.trans (h2.bl.mono H3.out.2.size)); clear h2 g1; have g1 := cl1 ((H4.out.2.block _ hb1w).trans H1.out.1); have g1' : (w4.alloc (.cells #[fnV (184, #[pt p1, pt p2, pt p3]), fnV (184, #[pt p4, pt p5, pt p6]), fnV (184, #[pt p7, pt p8, pt p9])] 138)).cell? ⟨b1, 0, none⟩ = some (.pointer (some ⟨D, 0, none⟩)) := (Below.cell (p := ⟨b1, 0, none⟩) ((Below.refl w4.heap.size w4).alloc (Nat.le_refl _) _) (Nat.lt_of_lt_of_le hb1w H4.out.2.size)).trans g1)
      | (go_at_call 113; (refine Calls.mono (days_w H2.out.1 H3.out.1 H4.out.1 HZ.out.1 _ H1.out.2.2.2.2.1) ?_); rintro e w5 ⟨b, p', rfl, h8⟩; have H5 : Hid _ := And.intro h8 trivial; clear g1; have g1 : w5.cell? ⟨b1, 0, none⟩ = some (.pointer (some ⟨D, 0, none⟩)) := cl1 (h8.1.at (show w1.drew.heap[b1]? = _ from H1.out.1) (fun q => n1 q.symm)); clear h8)
      | fail)
    have fr5 : Fro (fun k => k = D) W w5 := (Fro.below H1.out.2.2.1).trans (show Fro (fun k => k = D) w1 w5 from ⟨H5.out.1.1.os, H5.out.1.1.tape, H5.out.1.1.output, H5.out.1.1.size, H5.out.1.1.block⟩)
    have x5 : w5.heap[b1]? = some (.cells #[.pointer (some ⟨D, 0, none⟩)] 140 (0, 0)) := H5.out.1.1.at (show w1.drew.heap[b1]? = _ from H1.out.1) (fun q => n1 q.symm)
    have H6 : Hid _ := And.intro fr5 (And.intro x5 H5.out.1.2)
    clear fr5 x5 g1' H2 H3 H4 H5 HZ HB0
    cases b
    · go_wp2_with fail
      go_ret2
      refine ⟨false, p', rfl, H6.out.1, H6.out.2.2.1.x, ?_⟩
      have hF := H6.out.2.2.2.2 (by first | rfl | trivial)
      rw [HE.out]
      cases hr : runG gsD p (bl dy) with
      | none => rfl
      | some x => rw [Option.bind_some, if_pos (hF x hr)]
    go_wp2_with fail
    have hrun := H6.out.2.2.2.1 (by first | rfl | trivial)
    have hE2 := HE.out
    rw [hrun, Option.bind_some, if_neg (by simp)] at hE2
    have HE2 : Hid _ := hE2
    clear hE2 hrun HE
    have HB0 : Hid (Below w5.heap.size w5 w5.drew) := below_drewN 1
    have hst0 : StS D p' w5.drew := ⟨H6.out.2.2.1.x⟩
    have HZ : Hid _ := And.intro hst0 trivial
    have hb1w5 : b1 < w5.heap.size := lt_of H6.out.2.1
    have g1d : w5.drew.cell? ⟨b1, 0, none⟩ = some (.pointer (some ⟨D, 0, none⟩)) := g1
    clear hst0 g1
    go_region_held3 (fun X => X.cell? ⟨b1, 0, none⟩ = some (.pointer (some ⟨D, 0, none⟩))) (first | exact g1d | exact g1 | exact g1' | fail) (first
      | (go_at_call 157; (with_reducible refine Calls.mono (part_m ⟨#[72]⟩ 3600 _ _) ?_); rintro e w6 ⟨p1, p2, p3, rfl, h2⟩; have H2 : Hid _ := And.intro h2 (HB0.out.trans (h2.bl.mono HB0.out.size)); clear h2 g1d; have g1 := cl1 ((H2.out.2.block _ hb1w5).trans H6.out.2.1))
      | (go_at_call 157; (with_reducible refine Calls.mono (part_m ⟨#[77]⟩ 60 _ _) ?_); rintro e w7 ⟨p4, p5, p6, rfl, h2⟩; have H3 : Hid _ := And.intro h2 (H2.out.2.trans (h2.bl.mono H2.out.2.size)); clear h2 g1; have g1 := cl1 ((H3.out.2.block _ hb1w5).trans H6.out.2.1))
      | (go_at_call 158; (with_reducible refine Calls.mono (last_m _ _) ?_); rintro e w8 ⟨p7, rfl, h2⟩; have H4 : Hid _ := And.intro h2 (H3.out.2.trans (h2.bl.mono H3.out.2.size)); clear h2 g1; have g1 := cl1 ((H4.out.2.block _ hb1w5).trans H6.out.2.1); have g1' : (w8.alloc (.cells #[fnV (184, #[pt p1, pt p2, pt p3]), fnV (184, #[pt p4, pt p5, pt p6]), fnV (186, #[pt p7])] 138)).cell? ⟨b1, 0, none⟩ = some (.pointer (some ⟨D, 0, none⟩)) := (Below.cell (p := ⟨b1, 0, none⟩) ((Below.refl w8.heap.size w8).alloc (Nat.le_refl _) _) (Nat.lt_of_lt_of_le hb1w5 H4.out.2.size)).trans g1)
      | (go_at_call 113; (refine Calls.mono (times_w H2.out.1 H3.out.1 H4.out.1 HZ.out.1 _ H1.out.2.2.2.2.2) ?_); rintro e w9 ⟨b', p'', rfl, h8⟩; have H5 : Hid _ := And.intro h8 trivial; clear g1; have g1 : w9.cell? ⟨b1, 0, none⟩ = some (.pointer (some ⟨D, 0, none⟩)) := cl1 (h8.1.at (show w5.drew.heap[b1]? = _ from H6.out.2.1) (fun q => n1 q.symm)); clear h8)
      | fail)
    have fr9 : Fro (fun k => k = D) W w9 := H6.out.1.trans (show Fro (fun k => k = D) w5 w9 from ⟨H5.out.1.1.os, H5.out.1.1.tape, H5.out.1.1.output, H5.out.1.1.size, H5.out.1.1.block⟩)
    have H7 : Hid _ := And.intro fr9 H5.out.1.2
    clear fr9 g1' H2 H3 H4 H5 HZ HB0
    cases b'
    · go_wp2_with fail
      go_ret2
      refine ⟨false, p'', rfl, H7.out.1, H7.out.2.1.x, ?_⟩
      have hF := H7.out.2.2.2 (by first | rfl | trivial)
      rw [HE2.out]
      cases hr : runG gsT p' (bl tm) with
      | none => rfl
      | some x => rw [Option.bind_some, if_pos (hF x hr)]
    have hrun2 := H7.out.2.2.1 (by first | rfl | trivial)
    have hE3 := HE2.out
    rw [hrun2, Option.bind_some, if_neg (by simp)] at hE3
    have HE3 : Hid _ := hE3
    clear hE3 hrun2 HE2
    cases neg
    · go_wp2_with fail
      go_ret2
      refine ⟨true, p'', rfl, H7.out.1, H7.out.2.1.x, ?_⟩
      rw [HE3.out]
      exact ⟨rfl, rfl⟩
    obtain ⟨po, ps, pn⟩ := p''
    have x9 := H7.out.2.1.x
    obtain ⟨d0, d1, d2⟩ := blk3 x9
    have t0 := (cl_at (i := 0) x9 rfl).2
    have t1 := (cl_at (i := 1) x9 rfl).2
    have t2 := (cl_at (i := 2) x9 rfl).2
    dsimp only at d0 d1 d2
    have xA : (((w9.setCell ⟨D, 0, none⟩ (.int .i64 (wr (-po)))).setCell ⟨D, 1, none⟩ (.int .i64 (wr (-ps)))).setCell ⟨D, 2, none⟩ (.int .i64 (wr (-pn)))).heap[D]? = some (.cells (spC ⟨wr (-po), wr (-ps), wr (-pn)⟩) 38 (0, 0)) := bset (i := 2) (bset (i := 1) (bset (i := 0) x9 (.int .i64 (wr (-po)))) (.int .i64 (wr (-ps)))) (.int .i64 (wr (-pn)))
    have fA := ((H7.out.1.set (X := D) (i := 0) (.inl rfl) (.int .i64 (wr (-po)))).set (X := D) (i := 1) (.inl rfl) (.int .i64 (wr (-ps)))).set (X := D) (i := 2) (.inl rfl) (.int .i64 (wr (-pn)))
    have HA : Hid _ := And.intro xA fA
    clear xA fA x9 H1 H6 H7 hG
    go_wp2_with fail
    go_region
    all_goals
      go_wp2_with fail
      go_ret2
      refine ⟨true, ⟨wr (-po), wr (-ps), wr (-pn)⟩, rfl, HA.out.2.drewN 1, HA.out.1, ?_⟩
      rw [HE3.out]
      exact ⟨rfl, rfl⟩
theorem fc_span {U : World} {D b1 : Nat} (h1 : U.heap[b1]? = some (.cells #[.pointer (some ⟨D, 0, none⟩)] 140 (0, 0))) (n1 : D ≠ b1) : FC U (fun k => k = D) (StS D) (155, #[pt b1]) (fun p l => (spG p l).map fun x => (x, [])) := by
  refine ⟨en_span, fun W p s hW hp hs => ?_⟩
  refine Calls.mono (span_c s b1 D p W (hW.at h1 (fun q => n1 q.symm)) hp.x n1 hs) ?_
  rintro e w' ⟨b, p', rfl, hf, hx, hm⟩
  refine ⟨⟨#[]⟩, b, p', rfl, fro_in hW hf rfl, ⟨hx⟩, Nat.zero_le _, ?_⟩
  cases hg : spG p (bl s) with
  | none => rw [hg] at hm; exact hm
  | some x => rw [hg] at hm; exact ⟨hm.1, hm.2, rfl⟩
end Go.Proofs.YtgaegajcejpmdaaGreatDoor.Dt
