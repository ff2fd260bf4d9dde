/- The second telling: Add. -/
import Derived.Test.YtakemkhgaicckaaC2
import Derived.Test.YtakemkhgaicckaaC3
namespace Go.Proofs.Ytakemkhgaicckaa
open Go.RowKit
set_option linter.unusedVariables false

set_option maxRecDepth 100000 in
set_option maxHeartbeats 6400000 in
theorem add_r {w : World} {v v' : Value} {a b : Nm} (ha : NmR w v a) (hb : NmR w v' b) : Calls Try.prog 21 #[nmV a.1 v a.2.2, nmV b.1 v' b.2.2] w (AdP a b w) := by
  obtain ⟨x1, x2, x4, x3⟩ := box3 w (.bool a.1) v (.int .i64 a.2.2) (.bool b.1) v' (.int .i64 b.2.2)
  obtain ⟨e1, e2, e3, e4, _⟩ := ex_ok ha.cn hb.cn
  have la := ha.cn.1.len
  have lb := hb.cn.1.len
  have za := ha.le
  have zb := hb.le
  obtain ⟨va, vc, rfl, _⟩ := ha.bt.form
  obtain ⟨va', vc', rfl, _⟩ := hb.bt.form
  have hH := fun W (hW : Below w.heap.size w W) => high_r (ha.bt.below hW) (hb.bt.below hW) a.1 b.1 a.2.2 b.2.2 (by omega) (by omega) (by omega) (by omega)
  have hX : hiX a b = max (a.2.1.length - a.2.2) (b.2.1.length - b.2.2) := rfl
  have hSs : hiS a b = max a.2.2 b.2.2 := rfl
  rw [← hX, ← hSs] at hH
  have dA : ∀ j, j < hiX a b + 1 + hiS a b → dgS a.2.1 a.2.2 ((hiX a b : Int) - j) = (exA a b).getD j 0 := fun j hj => dg_ext (by omega) (by rw [hX]; omega) (by rw [hSs]; omega) hj
  have dB : ∀ j, j < hiX a b + 1 + hiS a b → dgS b.2.1 b.2.2 ((hiX a b : Int) - j) = (exB a b).getD j 0 := fun j hj => dg_ext (by omega) (by rw [hX]; omega) (by rw [hSs]; omega) hj
  have hXl : hiX a b ≤ 5000 := by rw [hX]; omega
  have hSl : hiS a b ≤ 5000 := by rw [hSs]; omega
  have hDA := fun W (hW : Below w.heap.size w W) p (h0 : -10000 ≤ p) (h1 : p ≤ 10000) => digit_n (ha.below hW) p h0 h1
  have hDB := fun W (hW : Below w.heap.size w W) p (h0 : -10000 ≤ p) (h1 : p ≤ 10000) => digit_n (hb.below hW) p h0 h1
  have hSz := fun W (hW : Below w.heap.size w W) => size_r (ha.below hW) (hb.below hW)
  have had : adS a b = if 4096 < (smS a b).2.1.length then .error 3 else .ok (smS a b) := rfl
  have hsm : smS a b = if a.1 = b.1 then canS a.1 (addL (exA a b) (exB a b)).2 (hiS a b) else if szS a b < 0 then canS b.1 (subL (exB a b) (exA a b)).2 (hiS a b) else canS a.1 (subL (exA a b) (exB a b)).2 (hiS a b) := rfl
  have hszb : -1 ≤ szS a b ∧ szS a b ≤ 1 := by
    unfold szS
    rcases lex_val (e1.trans e2.symm) e3 e4 with q | q | q <;> omega
  generalize hiX a b = X at *
  generalize hiS a b = s at *
  generalize exA a b = EA at *
  generalize exB a b = EB at *
  generalize szS a b = SZ at *
  have HH : Hid _ := And.intro dA (And.intro dB (And.intro hDA (And.intro hDB (And.intro hSz (And.intro x1 (And.intro x2 (And.intro x3 (And.intro e1 (And.intro e2 (And.intro hH (And.intro x4 (And.intro had (And.intro hsm (And.intro e3 e4))))))))))))))
  obtain ⟨b10, b11, b12⟩ := bl3 x1
  obtain ⟨b20, b21, b22⟩ := bl3 x2
  clear dA dB hDA hDB hSz x1 x2 x3 e1 e2 hH hX hSs la lb za zb ha hb x4 had hsm e3 e4
  obtain ⟨an, al, asc⟩ := a
  obtain ⟨bn, bl', bsc⟩ := b
  dsimp only at *
  go_enter Try.func21, Try.ntmps21
  go_wp2_with fail
  refine Calls.mono (HH.out.2.2.2.2.2.2.2.2.2.2.1 _ HH.out.2.2.2.2.2.2.2.1) ?_
  rintro e w2 ⟨rfl, hb2⟩
  have hbw2 := HH.out.2.2.2.2.2.2.2.1.trans (hb2.mono (by simp only [sza]; omega))
  have y1 := (hb2.block _ (lt_of HH.out.2.2.2.2.2.1)).trans HH.out.2.2.2.2.2.1
  have y2 := (hb2.block _ (lt_of HH.out.2.2.2.2.2.2.1)).trans HH.out.2.2.2.2.2.2.1
  have y3 := (hb2.block _ (lt_of HH.out.2.2.2.2.2.2.2.2.2.2.2.1)).trans HH.out.2.2.2.2.2.2.2.2.2.2.2.1
  obtain ⟨b10', b11', b12'⟩ := bl3 y1
  obtain ⟨b20', b21', b22'⟩ := bl3 y2
  have hl1 := lt_of y1
  have hl2 := lt_of y2
  have hl3 := lt_of y3
  have H2 : Hid _ := And.intro hbw2 (And.intro y1 (And.intro y2 y3))
  clear hb2 hbw2 y1 y2 y3 b10 b11 b12 b20 b21 b22
  obtain ⟨i5, z5, hi5, hz0, hzc, hz1, hz3⟩ := info5p
  have hz5 : z5 = .int .u8 0 := by
    have hh : (Try.prog.info? 5).bind (fun i => i.zero) = some (.int .u8 0) := by kernel_rfl
    rw [hi5] at hh
    simp at hh
    rw [hz0] at hh
    simpa using hh
  have hn1 : (X : Int) + 1 + s = ((X + 1 + s : Nat) : Int) := by omega
  have hmk := run_makeSlice (P := Try.prog) w2 22 5 i5 z5 Try.underlying22 hi5 hz0 .i64 .i64 ((X : Int) + 1 + s) ((X : Int) + 1 + s) (by omega) (by omega) (by rw [hz1]; omega) (by rw [hz3]; omega) (by omega)
  have htn : ((X : Int) + 1 + s).toNat = X + 1 + s := by omega
  rw [htn, hz1, hz5, made8] at hmk
  have hbA : Below w2.heap.size w2 (w2.alloc (.cells ((List.replicate (X + 1 + s) (0 : Int)).map (Value.int .u8)).toArray 5)) := (Below.refl _ _).alloc (Nat.le_refl _) _
  have hO := nw_heap w2 (.cells ((List.replicate (X + 1 + s) (0 : Int)).map (Value.int .u8)).toArray 5)
  generalize (w2.alloc (.cells ((List.replicate (X + 1 + s) (0 : Int)).map (Value.int .u8)).toArray 5)) = W3 at *
  have u1 := (hbA.block _ hl1).trans H2.out.2.1
  have u2 := (hbA.block _ hl2).trans H2.out.2.2.1
  have u3 := (hbA.block _ hl3).trans H2.out.2.2.2
  obtain ⟨c10, c11, c12⟩ := bl3 u1
  obtain ⟨c20, c21, c22⟩ := bl3 u2
  have hbw3 := H2.out.1.trans (hbA.mono H2.out.1.size)
  have HA : Hid _ := And.intro hbA (And.intro hO (And.intro u1 (And.intro u2 (And.intro u3 hbw3))))
  have hob := lt_of hO
  clear hbA hO hn1 htn u1 u2 u3 hbw3 H2
  by_cases hab : an = bn
  · subst hab
    have hsm := HH.out.2.2.2.2.2.2.2.2.2.2.2.2.2.1
    rw [if_pos rfl] at hsm
    have HSM : Hid _ := hsm
    clear hsm
    go_upto_region 7 with fail
    go_loopg [10, 11, 12] (X + 1 + s) (fun m v10 v11 v12 wr => ∃ (k : Nat) (c : Int) (ol : List Int), v10 = .int .i64 c ∧ v11 = .int .i64 ((k : Int) - s) ∧ k + m = X + 1 + s ∧ 0 ≤ c ∧ c ≤ 1 ∧ wr.heap[w2.heap.size]? = some (.cells (ol.map (Value.int .u8)).toArray 5 (0, 0)) ∧ ol.length = X + 1 + s ∧ Below w2.heap.size W3 wr ∧ W3.heap.size ≤ wr.heap.size ∧ Hid (Dg ol) ∧ Hid (addL (EA.drop m) (EB.drop m) = (c, ol.drop m)))
    case atStart => exact ⟨0, 0, List.replicate (X + 1 + s) 0, rfl, by first | rfl | simp, by omega, by omega, by omega, HA.out.2.1, by simp, Below.refl _ _, Nat.le_refl _, Dg.rep _, by
      have z1 : EA.drop (X + 1 + s) = [] := drop_all (by rw [HH.out.2.2.2.2.2.2.2.2.1]; omega)
      have z2 : EB.drop (X + 1 + s) = [] := drop_all (by rw [HH.out.2.2.2.2.2.2.2.2.2.1]; omega)
      have z3 : (List.replicate (X + 1 + s) (0 : Int)).drop (X + 1 + s) = [] := drop_all (by simp)
      show _ = _
      rw [z1, z2, z3]
      rfl⟩
    case round =>
      obtain ⟨k, c, ol, rfl, rfl, hkm, hc0, hc1, hO, hol, hbr, hszr, hdg, had⟩ := hrel
      have hu1 := (hbr.block _ hl1).trans HA.out.2.2.1
      have hu2 := (hbr.block _ hl2).trans HA.out.2.2.2.1
      have hu3 := (hbr.block _ hl3).trans HA.out.2.2.2.2.1
      have hbw : Below w.heap.size w wr := HA.out.2.2.2.2.2.trans (hbr.mono (by omega))
      by_cases hk : k < X + 1 + s
      · obtain ⟨j, rfl⟩ : ∃ j, gk = j + 1 := ⟨gk - 1, by omega⟩
        have hj : j < X + 1 + s := by omega
        have hpj : (k : Int) - s = (X : Int) - j := by omega
        have hkl : (k : Int) - s ≤ X := by omega
        have hix : (X : Int) - ((k : Int) - s) = j := by omega
        obtain ⟨b10, b11, b12⟩ := bl3 hu1
        obtain ⟨b20, b21, b22⟩ := bl3 hu2
        have hlt1 := lt_of hu1
        have hlt2 := lt_of hu2
        have hOlt := lt_of hO
        have gA := fun W (hW : Below wr.heap.size wr W) => HH.out.2.2.1 W (hbw.trans (hW.mono hbw.size)) ((k : Int) - s) (by omega) (by omega)
        have gB := fun W (hW : Below wr.heap.size wr W) => HH.out.2.2.2.1 W (hbw.trans (hW.mono hbw.size)) ((k : Int) - s) (by omega) (by omega)
        have dA' : dgS al asc ((k : Int) - s) = EA.getD j 0 := by rw [hpj]; exact HH.out.1 j hj
        have dB' : dgS bl' bsc ((k : Int) - s) = EB.getD j 0 := by rw [hpj]; exact HH.out.2.1 j hj
        rw [dA'] at gA
        rw [dB'] at gB
        have hEA : j < EA.length := by rw [HH.out.2.2.2.2.2.2.2.2.1]; exact hj
        have hEB : j < EB.length := by rw [HH.out.2.2.2.2.2.2.2.2.2.1]; exact hj
        have gEA : EA.getD j 0 = EA[j]'hEA := by rw [List.getD_eq_getElem?_getD, List.getElem?_eq_getElem hEA]; rfl
        have gEB : EB.getD j 0 = EB[j]'hEB := by rw [List.getD_eq_getElem?_getD, List.getElem?_eq_getElem hEB]; rfl
        have nA := HH.out.2.2.2.2.2.2.2.2.2.2.2.2.2.2.1 _ (List.getElem_mem hEA)
        have nB := HH.out.2.2.2.2.2.2.2.2.2.2.2.2.2.2.2 _ (List.getElem_mem hEB)
        have hadn : addL (EA.drop j) (EB.drop j) = ((EA[j]'hEA + EB[j]'hEB + c) / 10, (EA[j]'hEA + EB[j]'hEB + c) % 10 :: ol.drop (j + 1)) := by
          rw [List.drop_eq_getElem_cons hEA, List.drop_eq_getElem_cons hEB, addL, had.out]
        rw [gEA] at gA
        rw [gEB] at gB
        generalize EA[j]'hEA = p at *
        generalize EB[j]'hEB = q at *
        clear dA' dB' gEA gEB hEA hEB hpj
        obtain ⟨nA0, nA1⟩ := nA
        obtain ⟨nB0, nB1⟩ := nB
        have hv0 : 0 ≤ p + q + c := by omega
        have hm0 : 0 ≤ (p + q + c) % 10 := by omega
        have hm9 : (p + q + c) % 10 < 256 := by omega
        have hkeep : ∀ W', Below wr.heap.size wr W' → (W'.cell? ⟨w.heap.size, 0, none⟩ = some (.bool an) ∧ W'.cell? ⟨w.heap.size, 1, none⟩ = some (.slice va al.length vc) ∧ W'.cell? ⟨w.heap.size, 2, none⟩ = some (.int .i64 asc)) ∧ (W'.cell? ⟨w.heap.size + 1, 0, none⟩ = some (.bool an) ∧ W'.cell? ⟨w.heap.size + 1, 1, none⟩ = some (.slice va' bl'.length vc') ∧ W'.cell? ⟨w.heap.size + 1, 2, none⟩ = some (.int .i64 bsc)) := fun W' hb => ⟨⟨(hb.cell (p := ⟨w.heap.size, 0, none⟩) hlt1).trans b10, (hb.cell (p := ⟨w.heap.size, 1, none⟩) hlt1).trans b11, (hb.cell (p := ⟨w.heap.size, 2, none⟩) hlt1).trans b12⟩, (hb.cell (p := ⟨w.heap.size + 1, 0, none⟩) hlt2).trans b20, (hb.cell (p := ⟨w.heap.size + 1, 1, none⟩) hlt2).trans b21, (hb.cell (p := ⟨w.heap.size + 1, 2, none⟩) hlt2).trans b22⟩
        have HI : Hid _ := And.intro gA (And.intro gB (And.intro hadn (And.intro hO (And.intro hbr hdg))))
        have HK : Hid _ := hkeep
        have HB0 : Hid (Below wr.heap.size wr wr.drew) := Below.drewN' 1
        clear gA gB hkeep hadn hbw hO hbr hdg had hu1 hu2 hu3
        go_wp2_with fail
        go_region_held3 (fun W => W.cell? ⟨w.heap.size, 0, none⟩ = some (.bool an) ∧ W.cell? ⟨w.heap.size, 1, none⟩ = some (.slice va al.length vc) ∧ W.cell? ⟨w.heap.size, 2, none⟩ = some (.int .i64 asc) ∧ W.cell? ⟨w.heap.size + 1, 0, none⟩ = some (.bool an) ∧ W.cell? ⟨w.heap.size + 1, 1, none⟩ = some (.slice va' bl'.length vc') ∧ W.cell? ⟨w.heap.size + 1, 2, none⟩ = some (.int .i64 bsc)) (go_keep) (first
          | (go_at_call 39; (with_reducible refine Calls.mono (HI.out.1 _ (by first | exact HBB1.out | exact HB0.out)) ?_); rintro e wA1 ⟨rfl, hbA⟩; have hbb : Below wr.heap.size wr wA1 := Below.trans (by first | exact HBB1.out | exact HB0.out) (hbA.mono (Below.size (by first | exact HBB1.out | exact HB0.out))); obtain ⟨⟨g0, g1, g2⟩, g3, g4, g5⟩ := HK.out _ hbb; have HBA1 : Hid _ := hbb; clear hbb hbA)
          | (go_at_call 39; (with_reducible refine Calls.mono (HI.out.2.1 _ (by first | exact HBA1.out | exact HB0.out)) ?_); rintro e wB1 ⟨rfl, hbB⟩; have hbb : Below wr.heap.size wr wB1 := Below.trans (by first | exact HBA1.out | exact HB0.out) (hbB.mono (Below.size (by first | exact HBA1.out | exact HB0.out))); obtain ⟨⟨g0, g1, g2⟩, g3, g4, g5⟩ := HK.out _ hbb; have HBB1 : Hid _ := hbb; clear hbb hbB))
        have hOB := (HBB1.out.block _ hOlt).trans HI.out.2.2.2.1
        have hjo : j < ol.length := by omega
        obtain ⟨cj, fj⟩ := cellO hOB hjo
        have HOB : Hid _ := hOB
        clear hOB
        go_wp2_with fail
        go_roundg j
        case measure => omega
        case rel =>
          have hsz9 := HBB1.out.size
          refine ⟨k + 1, (p + q + c) / 10, ol.set j ((p + q + c) % 10), rfl, by simp; omega, by omega, by omega, by omega, setO HOB.out, by simpa using hol, ?_, by simp [World.setCell]; omega, dg_set HI.out.2.2.2.2.2.out (by omega), by show _ = _; rw [HI.out.2.2.1, drop_set hjo]⟩
          exact (HI.out.2.2.2.2.1.trans (HBB1.out.mono (by omega))).setCell (p := ⟨w2.heap.size, j, none⟩) (Nat.le_refl _) _
      · obtain rfl : k = X + 1 + s := by omega
        have hg0 : gk = 0 := by omega
        subst hg0
        have hadf := had.out
        rw [List.drop_zero, List.drop_zero, List.drop_zero] at hadf
        have hbt : BtR wr (.slice (some ⟨w2.heap.size, 0, none⟩) (X + 1 + s) (X + 1 + s)) ol := by
          have := btr_out hO hdg.out (by omega)
          rwa [hol] at this
        have hcn := canon_r hbt an s (by omega) (by omega)
        have hsmC : smS (an, al, asc) (an, bl', bsc) = canS an ol s := by rw [HSM.out, hadf]
        rw [← hsmC] at hcn
        have hadS := HH.out.2.2.2.2.2.2.2.2.2.2.2.2.1
        have hAdP : ∀ (e : Ending) (w' : World), AdP (an, al, asc) (an, bl', bsc) w e w' = (Below w.heap.size w w' ∧ match adS (an, al, asc) (an, bl', bsc) with
          | .error x => e = .returned (.tuple #[nmV false (.slice none 0 0) 0, .int .i64 x])
          | .ok n => ∃ rv, e = .returned (.tuple #[nmV n.1 rv n.2.2, .int .i64 0]) ∧ BtR w' rv n.2.1) := fun _ _ => rfl
        generalize smS (an, al, asc) (an, bl', bsc) = C at *
        have H5 : Hid _ := And.intro hcn (And.intro hadS (And.intro hAdP (And.intro hu3 hbw)))
        have hu3l := lt_of hu3
        clear hcn hadS hsmC hadf hbt had hAdP hu1 hu2 hu3 hbw hbr hO hdg HSM
        go_wp2_with fail
        refine Calls.mono H5.out.1 ?_
        rintro e w4 ⟨rv, rfl, hbt4, hrv4, hb4⟩
        obtain ⟨ra, rc, rfl, _, _⟩ := hbt4.form
        have hz4 := (hb4.block _ hu3l).trans H5.out.2.2.2.1
        have hb45 : Below w4.heap.size w4 (w4.alloc (.cells #[.bool C.1, .slice ra C.2.1.length rc, .int .i64 C.2.2] 29)) := (Below.refl _ _).alloc (Nat.le_refl _) _
        have hz5' := (hb45.block _ (lt_of hz4)).trans hz4
        have hT5 := nw_heap w4 (.cells #[.bool C.1, .slice ra C.2.1.length rc, .int .i64 C.2.2] 29)
        have hbw4 := H5.out.2.2.2.2.trans (hb4.mono H5.out.2.2.2.2.size)
        have hbw5 := hbw4.trans (hb45.mono hbw4.size)
        have hbt5 := hbt4.below hb45
        have hcl := (hbt4.lim).2
        obtain ⟨t0, t1, t2⟩ := bl3 hT5
        obtain ⟨r0, r1, r2⟩ := bl3 hz5'
        obtain ⟨rf0, rf1, rf2⟩ := bl3f hz5'
        have hszw4 := hbw4.size
        have hszr4 := hb4.size
        have H6 : Hid _ := And.intro hz5' (And.intro hbw5 (And.intro hbt5 hrv4))
        have hne : w.heap.size + 1 + 1 ≠ w4.heap.size := by omega
        clear hbt4 hrv4 hb4 hz4 hb45 hz5' hT5 hbw4 hbw5 hbt5
        unfold maxLen at hcl
        go_upto_region 28 with fail
        generalize (w4.alloc (.cells #[.bool C.1, .slice ra C.2.1.length rc, .int .i64 C.2.2] 29)) = W5 at *
        by_cases hbig : (4096 : Int) < C.2.1.length
        · go_wp2_with fail
          obtain ⟨k1, k2, k3, k4⟩ := set3 H6.out.2.1 (show w.heap.size ≤ w.heap.size + 1 + 1 by omega) H6.out.1 (.bool false) (.slice none 0 0) (.int .i64 0)
          generalize (((W5.setCell ⟨w.heap.size + 1 + 1, 0, none⟩ (.bool false)).setCell ⟨w.heap.size + 1 + 1, 1, none⟩ (.slice none 0 0)).setCell ⟨w.heap.size + 1 + 1, 2, none⟩ (.int .i64 0)) = W9 at *
          obtain ⟨j0, j1, j2⟩ := bl3 k1
          refine bodyPost_ret (v := .tuple #[nmV false (.slice none 0 0) 0, .int .i64 3]) (by simp [results, Try.results21, go_sem, j0, j1, j2]) rfl ?_
          rw [H5.out.2.2.1, H5.out.2.1, if_pos (by omega)]
          exact ⟨k2, rfl⟩
        · go_wp2_with fail
          obtain ⟨k1, k2, k3, k4⟩ := set3 H6.out.2.1 (show w.heap.size ≤ w.heap.size + 1 + 1 by omega) H6.out.1 (.bool C.1) (.slice ra C.2.1.length rc) (.int .i64 C.2.2)
          have hbt9 := H6.out.2.2.1.kept (Nat.le_of_eq k4.symm) k3 (fun k hk hn e => by have := H6.out.2.2.2 k hk; omega)
          generalize (((W5.setCell ⟨w.heap.size + 1 + 1, 0, none⟩ (.bool C.1)).setCell ⟨w.heap.size + 1 + 1, 1, none⟩ (.slice ra C.2.1.length rc)).setCell ⟨w.heap.size + 1 + 1, 2, none⟩ (.int .i64 C.2.2)) = W9 at *
          obtain ⟨j0, j1, j2⟩ := bl3 k1
          refine bodyPost_ret (v := .tuple #[nmV C.1 (.slice ra C.2.1.length rc) C.2.2, .int .i64 0]) (by simp [results, Try.results21, go_sem, j0, j1, j2]) rfl ?_
          rw [H5.out.2.2.1, H5.out.2.1, if_neg (by omega)]
          exact ⟨k2, _, rfl, hbt9⟩
  · have hab2 : (an == bn) = false := by simpa using hab
    have hsm := HH.out.2.2.2.2.2.2.2.2.2.2.2.2.2.1
    rw [if_neg hab] at hsm
    have HSM0 : Hid _ := hsm
    clear hsm hab
    have hszc := HH.out.2.2.2.2.1 W3 HA.out.2.2.2.2.2
    have HSZ : Hid _ := hszc
    clear hszc
    obtain ⟨hs0, hs1⟩ := hszb
    go_wp2_with fail
    refine Calls.mono HSZ.out ?_
    rintro e W6 ⟨rfl, hb6⟩
    have hsz6 := hb6.size
    have v1 := (hb6.block _ (lt_of HA.out.2.2.1)).trans HA.out.2.2.1
    have v2 := (hb6.block _ (lt_of HA.out.2.2.2.1)).trans HA.out.2.2.2.1
    have v3 := (hb6.block _ (lt_of HA.out.2.2.2.2.1)).trans HA.out.2.2.2.2.1
    have vO := (hb6.block _ (lt_of HA.out.2.1)).trans HA.out.2.1
    have hbw6 := HA.out.2.2.2.2.2.trans (hb6.mono HA.out.2.2.2.2.2.size)
    obtain ⟨c10', c11', c12'⟩ := bl3 v1
    obtain ⟨c20', c21', c22'⟩ := bl3 v2
    obtain ⟨f10, f11, f12⟩ := bl3f v1
    obtain ⟨f20, f21, f22⟩ := bl3f v2
    have hl16 := lt_of v1
    have hl26 := lt_of v2
    have hl36 := lt_of v3
    have hlO6 := lt_of vO
    have H6 : Hid _ := And.intro vO (And.intro v1 (And.intro v2 (And.intro v3 hbw6)))
    clear hb6 v1 v2 v3 vO hbw6 c10 c11 c12 c20 c21 c22
    by_cases hswap : SZ < 0
    · have hsm := HSM0.out
      rw [if_pos hswap] at hsm
      have HSM : Hid _ := hsm
      clear hsm
      go_upto_region 19 with fail
      obtain ⟨q1, q2, q3, q4⟩ := set3 H6.out.2.2.2.2 (Nat.le_refl _) H6.out.2.1 (.bool bn) (.slice va' bl'.length vc') (.int .i64 bsc)
      have hv2 := (q3 (w.heap.size + 1) (by omega)).trans H6.out.2.2.1
      have hv3 := (q3 (w.heap.size + 1 + 1) (by omega)).trans H6.out.2.2.2.1
      have hvO := (q3 w2.heap.size (by omega)).trans H6.out.1
      generalize (((W6.setCell ⟨w.heap.size, 0, none⟩ (.bool bn)).setCell ⟨w.heap.size, 1, none⟩ (.slice va' bl'.length vc')).setCell ⟨w.heap.size, 2, none⟩ (.int .i64 bsc)) = Wa at *
      obtain ⟨r1, r2, r3, r4⟩ := set3 q2 (show w.heap.size ≤ w.heap.size + 1 by omega) hv2 (.bool an) (.slice va al.length vc) (.int .i64 asc)
      have hw1 := (r3 w.heap.size (by omega)).trans q1
      have hw3 := (r3 (w.heap.size + 1 + 1) (by omega)).trans hv3
      have hwO := (r3 w2.heap.size (by omega)).trans hvO
      generalize (((Wa.setCell ⟨w.heap.size + 1, 0, none⟩ (.bool an)).setCell ⟨w.heap.size + 1, 1, none⟩ (.slice va al.length vc)).setCell ⟨w.heap.size + 1, 2, none⟩ (.int .i64 asc)) = Wb at *
      have hbb : Below Wb.heap.size Wb (Wb.alloc (.cells #[.bool an, .slice va al.length vc, .int .i64 asc] 29)) := (Below.refl _ _).alloc (Nat.le_refl _) _
      have HB4 : Hid _ := And.intro ((hbb.block _ (lt_of hwO)).trans hwO) (And.intro ((hbb.block _ (lt_of hw1)).trans hw1) (And.intro ((hbb.block _ (lt_of r1)).trans r1) (And.intro ((hbb.block _ (lt_of hw3)).trans hw3) (r2.trans (hbb.mono r2.size)))))
      clear q1 q2 q3 q4 hv2 hv3 hvO r1 r2 r3 r4 hw1 hw3 hwO hbb c10' c11' c12' c20' c21' c22' f10 f11 f12 f20 f21 f22
      generalize (Wb.alloc (.cells #[.bool an, .slice va al.length vc, .int .i64 asc] 29)) = W4 at *
      go_loopg [14, 15, 16] (X + 1 + s) (fun m v14 v15 v16 wr => ∃ (k : Nat) (c : Int) (ol : List Int), v14 = .int .i64 c ∧ v15 = .int .i64 ((k : Int) - s) ∧ k + m = X + 1 + s ∧ 0 ≤ c ∧ c ≤ 1 ∧ wr.heap[w2.heap.size]? = some (.cells (ol.map (Value.int .u8)).toArray 5 (0, 0)) ∧ ol.length = X + 1 + s ∧ Below w2.heap.size W4 wr ∧ W4.heap.size ≤ wr.heap.size ∧ Hid (Dg ol) ∧ Hid (subL (EB.drop m) (EA.drop m) = (c, ol.drop m)))
      case atStart => exact ⟨0, 0, List.replicate (X + 1 + s) 0, rfl, by first | rfl | simp, by omega, by omega, by omega, HB4.out.1, by simp, Below.refl _ _, Nat.le_refl _, Dg.rep _, by
        have z1 : EB.drop (X + 1 + s) = [] := drop_all (by rw [HH.out.2.2.2.2.2.2.2.2.2.1]; omega)
        have z2 : EA.drop (X + 1 + s) = [] := drop_all (by rw [HH.out.2.2.2.2.2.2.2.2.1]; omega)
        have z3 : (List.replicate (X + 1 + s) (0 : Int)).drop (X + 1 + s) = [] := drop_all (by simp)
        show _ = _
        rw [z1, z2, z3]
        rfl⟩
      case round =>
        obtain ⟨k, c, ol, rfl, rfl, hkm, hc0, hc1, hO, hol, hbr, hszr, hdg, had⟩ := hrel
        have hu1 := (hbr.block _ hl1).trans HB4.out.2.1
        have hu2 := (hbr.block _ hl2).trans HB4.out.2.2.1
        have hu3 := (hbr.block _ hl3).trans HB4.out.2.2.2.1
        have hbw : Below w.heap.size w wr := HB4.out.2.2.2.2.trans (hbr.mono (by omega))
        by_cases hk : k < X + 1 + s
        · obtain ⟨j, rfl⟩ : ∃ j, gk = j + 1 := ⟨gk - 1, by omega⟩
          have hj : j < X + 1 + s := by omega
          have hpj : (k : Int) - s = (X : Int) - j := by omega
          have hkl : (k : Int) - s ≤ X := by omega
          have hix : (X : Int) - ((k : Int) - s) = j := by omega
          obtain ⟨b10, b11, b12⟩ := bl3 hu1
          obtain ⟨b20, b21, b22⟩ := bl3 hu2
          have hlt1 := lt_of hu1
          have hlt2 := lt_of hu2
          have hOlt := lt_of hO
          have gA := fun W (hW : Below wr.heap.size wr W) => HH.out.2.2.2.1 W (hbw.trans (hW.mono hbw.size)) ((k : Int) - s) (by omega) (by omega)
          have gB := fun W (hW : Below wr.heap.size wr W) => HH.out.2.2.1 W (hbw.trans (hW.mono hbw.size)) ((k : Int) - s) (by omega) (by omega)
          have dA' : dgS bl' bsc ((k : Int) - s) = EB.getD j 0 := by rw [hpj]; exact HH.out.2.1 j hj
          have dB' : dgS al asc ((k : Int) - s) = EA.getD j 0 := by rw [hpj]; exact HH.out.1 j hj
          rw [dA'] at gA
          rw [dB'] at gB
          have hEA : j < EB.length := by rw [HH.out.2.2.2.2.2.2.2.2.2.1]; exact hj
          have hEB : j < EA.length := by rw [HH.out.2.2.2.2.2.2.2.2.1]; exact hj
          have gEA : EB.getD j 0 = EB[j]'hEA := by rw [List.getD_eq_getElem?_getD, List.getElem?_eq_getElem hEA]; rfl
          have gEB : EA.getD j 0 = EA[j]'hEB := by rw [List.getD_eq_getElem?_getD, List.getElem?_eq_getElem hEB]; rfl
          have nA := HH.out.2.2.2.2.2.2.2.2.2.2.2.2.2.2.2 _ (List.getElem_mem hEA)
          have nB := HH.out.2.2.2.2.2.2.2.2.2.2.2.2.2.2.1 _ (List.getElem_mem hEB)
          have hadn : subL (EB.drop j) (EA.drop j) = (if EB[j]'hEA - EA[j]'hEB - c < 0 then 1 else 0, (if EB[j]'hEA - EA[j]'hEB - c < 0 then EB[j]'hEA - EA[j]'hEB - c + 10 else EB[j]'hEA - EA[j]'hEB - c) :: ol.drop (j + 1)) := by
            rw [List.drop_eq_getElem_cons hEA, List.drop_eq_getElem_cons hEB, subL, had.out]
          rw [gEA] at gA
          rw [gEB] at gB
          generalize EB[j]'hEA = p at *
          generalize EA[j]'hEB = q at *
          clear dA' dB' gEA gEB hEA hEB hpj
          obtain ⟨nA0, nA1⟩ := nA
          obtain ⟨nB0, nB1⟩ := nB
          have hkeep : ∀ W', Below wr.heap.size wr W' → (W'.cell? ⟨w.heap.size, 0, none⟩ = some (.bool bn) ∧ W'.cell? ⟨w.heap.size, 1, none⟩ = some (.slice va' bl'.length vc') ∧ W'.cell? ⟨w.heap.size, 2, none⟩ = some (.int .i64 bsc)) ∧ (W'.cell? ⟨w.heap.size + 1, 0, none⟩ = some (.bool an) ∧ W'.cell? ⟨w.heap.size + 1, 1, none⟩ = some (.slice va al.length vc) ∧ W'.cell? ⟨w.heap.size + 1, 2, none⟩ = some (.int .i64 asc)) := fun W' hb => ⟨⟨(hb.cell (p := ⟨w.heap.size, 0, none⟩) hlt1).trans b10, (hb.cell (p := ⟨w.heap.size, 1, none⟩) hlt1).trans b11, (hb.cell (p := ⟨w.heap.size, 2, none⟩) hlt1).trans b12⟩, (hb.cell (p := ⟨w.heap.size + 1, 0, none⟩) hlt2).trans b20, (hb.cell (p := ⟨w.heap.size + 1, 1, none⟩) hlt2).trans b21, (hb.cell (p := ⟨w.heap.size + 1, 2, none⟩) hlt2).trans b22⟩
          have HI : Hid _ := And.intro gA (And.intro gB (And.intro hadn (And.intro hO (And.intro hbr hdg))))
          have HK : Hid _ := hkeep
          have HB0 : Hid (Below wr.heap.size wr wr.drew) := Below.drewN' 1
          clear gA gB hkeep hadn hbw hO hbr hdg had hu1 hu2 hu3
          go_wp2_with fail
          go_region_held3 (fun W => W.cell? ⟨w.heap.size, 0, none⟩ = some (.bool bn) ∧ W.cell? ⟨w.heap.size, 1, none⟩ = some (.slice va' bl'.length vc') ∧ W.cell? ⟨w.heap.size, 2, none⟩ = some (.int .i64 bsc) ∧ W.cell? ⟨w.heap.size + 1, 0, none⟩ = some (.bool an) ∧ W.cell? ⟨w.heap.size + 1, 1, none⟩ = some (.slice va al.length vc) ∧ W.cell? ⟨w.heap.size + 1, 2, none⟩ = some (.int .i64 asc)) (go_keep) (first
            | (go_at_call 39; (with_reducible refine Calls.mono (HI.out.1 _ (by first | exact HBB1.out | exact HB0.out)) ?_); rintro e wA1 ⟨rfl, hbA⟩; have hbb : Below wr.heap.size wr wA1 := Below.trans (by first | exact HBB1.out | exact HB0.out) (hbA.mono (Below.size (by first | exact HBB1.out | exact HB0.out))); obtain ⟨⟨g0, g1, g2⟩, g3, g4, g5⟩ := HK.out _ hbb; have HBA1 : Hid _ := hbb; clear hbb hbA)
            | (go_at_call 39; (with_reducible refine Calls.mono (HI.out.2.1 _ (by first | exact HBA1.out | exact HB0.out)) ?_); rintro e wB1 ⟨rfl, hbB⟩; have hbb : Below wr.heap.size wr wB1 := Below.trans (by first | exact HBA1.out | exact HB0.out) (hbB.mono (Below.size (by first | exact HBA1.out | exact HB0.out))); obtain ⟨⟨g0, g1, g2⟩, g3, g4, g5⟩ := HK.out _ hbb; have HBB1 : Hid _ := hbb; clear hbb hbB))
          have hOB := (HBB1.out.block _ hOlt).trans HI.out.2.2.2.1
          have hjo : j < ol.length := by omega
          obtain ⟨cj, fj⟩ := cellO hOB hjo
          have HOB : Hid _ := hOB
          have hsz9 := HBB1.out.size
          clear hOB
          by_cases hlt : p - q - c < 0
          · have hm0 : 0 ≤ p - q - c + 10 := by omega
            have hm9 : p - q - c + 10 < 256 := by omega
            have HLT : Hid _ := hlt
            go_wp2_with fail
            go_roundg j
            case measure => omega
            case rel =>
              refine ⟨k + 1, 1, ol.set j (p - q - c + 10), rfl, by simp; omega, by omega, by omega, by omega, setO HOB.out, by simpa using hol, ?_, by simp [World.setCell]; omega, dg_set HI.out.2.2.2.2.2.out (by omega), by show _ = _; rw [HI.out.2.2.1, drop_set hjo, if_pos hlt, if_pos hlt]⟩
              exact (HI.out.2.2.2.2.1.trans (HBB1.out.mono (by omega))).setCell (p := ⟨w2.heap.size, j, none⟩) (Nat.le_refl _) _
          · have hm0 : 0 ≤ p - q - c := by omega
            have hm9 : p - q - c < 256 := by omega
            have HLT : Hid _ := hlt
            go_wp2_with fail
            go_roundg j
            case measure => omega
            case rel =>
              refine ⟨k + 1, 0, ol.set j (p - q - c), rfl, by simp; omega, by omega, by omega, by omega, setO HOB.out, by simpa using hol, ?_, by simp [World.setCell]; omega, dg_set HI.out.2.2.2.2.2.out (by omega), by show _ = _; rw [HI.out.2.2.1, drop_set hjo, if_neg (by omega), if_neg (by omega)]⟩
              exact (HI.out.2.2.2.2.1.trans (HBB1.out.mono (by omega))).setCell (p := ⟨w2.heap.size, j, none⟩) (Nat.le_refl _) _
        · obtain rfl : k = X + 1 + s := by omega
          have hg0 : gk = 0 := by omega
          subst hg0
          have hadf := had.out
          rw [List.drop_zero, List.drop_zero, List.drop_zero] at hadf
          have hbt : BtR wr (.slice (some ⟨w2.heap.size, 0, none⟩) (X + 1 + s) (X + 1 + s)) ol := by
            have := btr_out hO hdg.out (by omega)
            rwa [hol] at this
          have hcn := canon_r hbt bn s (by omega) (by omega)
          have hsmC : smS (an, al, asc) (bn, bl', bsc) = canS bn ol s := by rw [HSM.out, hadf]
          rw [← hsmC] at hcn
          have hadS := HH.out.2.2.2.2.2.2.2.2.2.2.2.2.1
          have hAdP : ∀ (e : Ending) (w' : World), AdP (an, al, asc) (bn, bl', bsc) w e w' = (Below w.heap.size w w' ∧ match adS (an, al, asc) (bn, bl', bsc) with
            | .error x => e = .returned (.tuple #[nmV false (.slice none 0 0) 0, .int .i64 x])
            | .ok n => ∃ rv, e = .returned (.tuple #[nmV n.1 rv n.2.2, .int .i64 0]) ∧ BtR w' rv n.2.1) := fun _ _ => rfl
          generalize smS (an, al, asc) (bn, bl', bsc) = C at *
          have H5 : Hid _ := And.intro hcn (And.intro hadS (And.intro hAdP (And.intro hu3 hbw)))
          have hu3l := lt_of hu3
          clear hcn hadS hsmC hadf hbt had hAdP hu1 hu2 hu3 hbw hbr hO hdg HSM
          go_wp2_with fail
          refine Calls.mono H5.out.1 ?_
          rintro e w4 ⟨rv, rfl, hbt4, hrv4, hb4⟩
          obtain ⟨ra, rc, rfl, _, _⟩ := hbt4.form
          have hz4 := (hb4.block _ hu3l).trans H5.out.2.2.2.1
          have hb45 : Below w4.heap.size w4 (w4.alloc (.cells #[.bool C.1, .slice ra C.2.1.length rc, .int .i64 C.2.2] 29)) := (Below.refl _ _).alloc (Nat.le_refl _) _
          have hz5' := (hb45.block _ (lt_of hz4)).trans hz4
          have hT5 := nw_heap w4 (.cells #[.bool C.1, .slice ra C.2.1.length rc, .int .i64 C.2.2] 29)
          have hbw4 := H5.out.2.2.2.2.trans (hb4.mono H5.out.2.2.2.2.size)
          have hbw5 := hbw4.trans (hb45.mono hbw4.size)
          have hbt5 := hbt4.below hb45
          have hcl := (hbt4.lim).2
          obtain ⟨t0, t1, t2⟩ := bl3 hT5
          obtain ⟨r0, r1, r2⟩ := bl3 hz5'
          obtain ⟨rf0, rf1, rf2⟩ := bl3f hz5'
          have hszw4 := hbw4.size
          have hszr4 := hb4.size
          have H6 : Hid _ := And.intro hz5' (And.intro hbw5 (And.intro hbt5 hrv4))
          have hne : w.heap.size + 1 + 1 ≠ w4.heap.size := by omega
          clear hbt4 hrv4 hb4 hz4 hb45 hz5' hT5 hbw4 hbw5 hbt5
          unfold maxLen at hcl
          go_upto_region 28 with fail
          generalize (w4.alloc (.cells #[.bool C.1, .slice ra C.2.1.length rc, .int .i64 C.2.2] 29)) = W5 at *
          by_cases hbig : (4096 : Int) < C.2.1.length
          · go_wp2_with fail
            obtain ⟨k1, k2, k3, k4⟩ := set3 H6.out.2.1 (show w.heap.size ≤ w.heap.size + 1 + 1 by omega) H6.out.1 (.bool false) (.slice none 0 0) (.int .i64 0)
            generalize (((W5.setCell ⟨w.heap.size + 1 + 1, 0, none⟩ (.bool false)).setCell ⟨w.heap.size + 1 + 1, 1, none⟩ (.slice none 0 0)).setCell ⟨w.heap.size + 1 + 1, 2, none⟩ (.int .i64 0)) = W9 at *
            obtain ⟨j0, j1, j2⟩ := bl3 k1
            refine bodyPost_ret (v := .tuple #[nmV false (.slice none 0 0) 0, .int .i64 3]) (by simp [results, Try.results21, go_sem, j0, j1, j2]) rfl ?_
            rw [H5.out.2.2.1, H5.out.2.1, if_pos (by omega)]
            exact ⟨k2, rfl⟩
          · go_wp2_with fail
            obtain ⟨k1, k2, k3, k4⟩ := set3 H6.out.2.1 (show w.heap.size ≤ w.heap.size + 1 + 1 by omega) H6.out.1 (.bool C.1) (.slice ra C.2.1.length rc) (.int .i64 C.2.2)
            have hbt9 := H6.out.2.2.1.kept (Nat.le_of_eq k4.symm) k3 (fun k hk hn e => by have := H6.out.2.2.2 k hk; omega)
            generalize (((W5.setCell ⟨w.heap.size + 1 + 1, 0, none⟩ (.bool C.1)).setCell ⟨w.heap.size + 1 + 1, 1, none⟩ (.slice ra C.2.1.length rc)).setCell ⟨w.heap.size + 1 + 1, 2, none⟩ (.int .i64 C.2.2)) = W9 at *
            obtain ⟨j0, j1, j2⟩ := bl3 k1
            refine bodyPost_ret (v := .tuple #[nmV C.1 (.slice ra C.2.1.length rc) C.2.2, .int .i64 0]) (by simp [results, Try.results21, go_sem, j0, j1, j2]) rfl ?_
            rw [H5.out.2.2.1, H5.out.2.1, if_neg (by omega)]
            exact ⟨k2, _, rfl, hbt9⟩
    · have hsm := HSM0.out
      rw [if_neg hswap] at hsm
      have HSM : Hid _ := hsm
      clear hsm
      go_upto_region 19 with fail
      have HB4 : Hid _ := H6.out
      obtain ⟨W4, hW4⟩ : ∃ W4, W4 = W6 := ⟨_, rfl⟩
      subst hW4
      go_loopg [14, 15, 16] (X + 1 + s) (fun m v14 v15 v16 wr => ∃ (k : Nat) (c : Int) (ol : List Int), v14 = .int .i64 c ∧ v15 = .int .i64 ((k : Int) - s) ∧ k + m = X + 1 + s ∧ 0 ≤ c ∧ c ≤ 1 ∧ wr.heap[w2.heap.size]? = some (.cells (ol.map (Value.int .u8)).toArray 5 (0, 0)) ∧ ol.length = X + 1 + s ∧ Below w2.heap.size W4 wr ∧ W4.heap.size ≤ wr.heap.size ∧ Hid (Dg ol) ∧ Hid (subL (EA.drop m) (EB.drop m) = (c, ol.drop m)))
      case atStart => exact ⟨0, 0, List.replicate (X + 1 + s) 0, rfl, by first | rfl | simp, by omega, by omega, by omega, HB4.out.1, by simp, Below.refl _ _, Nat.le_refl _, Dg.rep _, by
        have z1 : EA.drop (X + 1 + s) = [] := drop_all (by rw [HH.out.2.2.2.2.2.2.2.2.1]; omega)
        have z2 : EB.drop (X + 1 + s) = [] := drop_all (by rw [HH.out.2.2.2.2.2.2.2.2.2.1]; omega)
        have z3 : (List.replicate (X + 1 + s) (0 : Int)).drop (X + 1 + s) = [] := drop_all (by simp)
        show _ = _
        rw [z1, z2, z3]
        rfl⟩
      case round =>
        obtain ⟨k, c, ol, rfl, rfl, hkm, hc0, hc1, hO, hol, hbr, hszr, hdg, had⟩ := hrel
        have hu1 := (hbr.block _ hl1).trans HB4.out.2.1
        have hu2 := (hbr.block _ hl2).trans HB4.out.2.2.1
        have hu3 := (hbr.block _ hl3).trans HB4.out.2.2.2.1
        have hbw : Below w.heap.size w wr := HB4.out.2.2.2.2.trans (hbr.mono (by omega))
        by_cases hk : k < X + 1 + s
        · obtain ⟨j, rfl⟩ : ∃ j, gk = j + 1 := ⟨gk - 1, by omega⟩
          have hj : j < X + 1 + s := by omega
          have hpj : (k : Int) - s = (X : Int) - j := by omega
          have hkl : (k : Int) - s ≤ X := by omega
          have hix : (X : Int) - ((k : Int) - s) = j := by omega
          obtain ⟨b10, b11, b12⟩ := bl3 hu1
          obtain ⟨b20, b21, b22⟩ := bl3 hu2
          have hlt1 := lt_of hu1
          have hlt2 := lt_of hu2
          have hOlt := lt_of hO
          have gA := fun W (hW : Below wr.heap.size wr W) => HH.out.2.2.1 W (hbw.trans (hW.mono hbw.size)) ((k : Int) - s) (by omega) (by omega)
          have gB := fun W (hW : Below wr.heap.size wr W) => HH.out.2.2.2.1 W (hbw.trans (hW.mono hbw.size)) ((k : Int) - s) (by omega) (by omega)
          have dA' : dgS al asc ((k : Int) - s) = EA.getD j 0 := by rw [hpj]; exact HH.out.1 j hj
          have dB' : dgS bl' bsc ((k : Int) - s) = EB.getD j 0 := by rw [hpj]; exact HH.out.2.1 j hj
          rw [dA'] at gA
          rw [dB'] at gB
          have hEA : j < EA.length := by rw [HH.out.2.2.2.2.2.2.2.2.1]; exact hj
          have hEB : j < EB.length := by rw [HH.out.2.2.2.2.2.2.2.2.2.1]; exact hj
          have gEA : EA.getD j 0 = EA[j]'hEA := by rw [List.getD_eq_getElem?_getD, List.getElem?_eq_getElem hEA]; rfl
          have gEB : EB.getD j 0 = EB[j]'hEB := by rw [List.getD_eq_getElem?_getD, List.getElem?_eq_getElem hEB]; rfl
          have nA := HH.out.2.2.2.2.2.2.2.2.2.2.2.2.2.2.1 _ (List.getElem_mem hEA)
          have nB := HH.out.2.2.2.2.2.2.2.2.2.2.2.2.2.2.2 _ (List.getElem_mem hEB)
          have hadn : subL (EA.drop j) (EB.drop j) = (if EA[j]'hEA - EB[j]'hEB - c < 0 then 1 else 0, (if EA[j]'hEA - EB[j]'hEB - c < 0 then EA[j]'hEA - EB[j]'hEB - c + 10 else EA[j]'hEA - EB[j]'hEB - c) :: ol.drop (j + 1)) := by
            rw [List.drop_eq_getElem_cons hEA, List.drop_eq_getElem_cons hEB, subL, had.out]
          rw [gEA] at gA
          rw [gEB] at gB
          generalize EA[j]'hEA = p at *
          generalize EB[j]'hEB = q at *
          clear dA' dB' gEA gEB hEA hEB hpj
          obtain ⟨nA0, nA1⟩ := nA
          obtain ⟨nB0, nB1⟩ := nB
          have hkeep : ∀ W', Below wr.heap.size wr W' → (W'.cell? ⟨w.heap.size, 0, none⟩ = some (.bool an) ∧ W'.cell? ⟨w.heap.size, 1, none⟩ = some (.slice va al.length vc) ∧ W'.cell? ⟨w.heap.size, 2, none⟩ = some (.int .i64 asc)) ∧ (W'.cell? ⟨w.heap.size + 1, 0, none⟩ = some (.bool bn) ∧ W'.cell? ⟨w.heap.size + 1, 1, none⟩ = some (.slice va' bl'.length vc') ∧ W'.cell? ⟨w.heap.size + 1, 2, none⟩ = some (.int .i64 bsc)) := fun W' hb => ⟨⟨(hb.cell (p := ⟨w.heap.size, 0, none⟩) hlt1).trans b10, (hb.cell (p := ⟨w.heap.size, 1, none⟩) hlt1).trans b11, (hb.cell (p := ⟨w.heap.size, 2, none⟩) hlt1).trans b12⟩, (hb.cell (p := ⟨w.heap.size + 1, 0, none⟩) hlt2).trans b20, (hb.cell (p := ⟨w.heap.size + 1, 1, none⟩) hlt2).trans b21, (hb.cell (p := ⟨w.heap.size + 1, 2, none⟩) hlt2).trans b22⟩
          have HI : Hid _ := And.intro gA (And.intro gB (And.intro hadn (And.intro hO (And.intro hbr hdg))))
          have HK : Hid _ := hkeep
          have HB0 : Hid (Below wr.heap.size wr wr.drew) := Below.drewN' 1
          clear gA gB hkeep hadn hbw hO hbr hdg had hu1 hu2 hu3
          go_wp2_with fail
          go_region_held3 (fun W => W.cell? ⟨w.heap.size, 0, none⟩ = some (.bool an) ∧ W.cell? ⟨w.heap.size, 1, none⟩ = some (.slice va al.length vc) ∧ W.cell? ⟨w.heap.size, 2, none⟩ = some (.int .i64 asc) ∧ W.cell? ⟨w.heap.size + 1, 0, none⟩ = some (.bool bn) ∧ W.cell? ⟨w.heap.size + 1, 1, none⟩ = some (.slice va' bl'.length vc') ∧ W.cell? ⟨w.heap.size + 1, 2, none⟩ = some (.int .i64 bsc)) (go_keep) (first
            | (go_at_call 39; (with_reducible refine Calls.mono (HI.out.1 _ (by first | exact HBB1.out | exact HB0.out)) ?_); rintro e wA1 ⟨rfl, hbA⟩; have hbb : Below wr.heap.size wr wA1 := Below.trans (by first | exact HBB1.out | exact HB0.out) (hbA.mono (Below.size (by first | exact HBB1.out | exact HB0.out))); obtain ⟨⟨g0, g1, g2⟩, g3, g4, g5⟩ := HK.out _ hbb; have HBA1 : Hid _ := hbb; clear hbb hbA)
            | (go_at_call 39; (with_reducible refine Calls.mono (HI.out.2.1 _ (by first | exact HBA1.out | exact HB0.out)) ?_); rintro e wB1 ⟨rfl, hbB⟩; have hbb : Below wr.heap.size wr wB1 := Below.trans (by first | exact HBA1.out | exact HB0.out) (hbB.mono (Below.size (by first | exact HBA1.out | exact HB0.out))); obtain ⟨⟨g0, g1, g2⟩, g3, g4, g5⟩ := HK.out _ hbb; have HBB1 : Hid _ := hbb; clear hbb hbB))
          have hOB := (HBB1.out.block _ hOlt).trans HI.out.2.2.2.1
          have hjo : j < ol.length := by omega
          obtain ⟨cj, fj⟩ := cellO hOB hjo
          have HOB : Hid _ := hOB
          have hsz9 := HBB1.out.size
          clear hOB
          by_cases hlt : p - q - c < 0
          · have hm0 : 0 ≤ p - q - c + 10 := by omega
            have hm9 : p - q - c + 10 < 256 := by omega
            have HLT : Hid _ := hlt
            go_wp2_with fail
            go_roundg j
            case measure => omega
            case rel =>
              refine ⟨k + 1, 1, ol.set j (p - q - c + 10), rfl, by simp; omega, by omega, by omega, by omega, setO HOB.out, by simpa using hol, ?_, by simp [World.setCell]; omega, dg_set HI.out.2.2.2.2.2.out (by omega), by show _ = _; rw [HI.out.2.2.1, drop_set hjo, if_pos hlt, if_pos hlt]⟩
              exact (HI.out.2.2.2.2.1.trans (HBB1.out.mono (by omega))).setCell (p := ⟨w2.heap.size, j, none⟩) (Nat.le_refl _) _
          · have hm0 : 0 ≤ p - q - c := by omega
            have hm9 : p - q - c < 256 := by omega
            have HLT : Hid _ := hlt
            go_wp2_with fail
            go_roundg j
            case measure => omega
            case rel =>
              refine ⟨k + 1, 0, ol.set j (p - q - c), rfl, by simp; omega, by omega, by omega, by omega, setO HOB.out, by simpa using hol, ?_, by simp [World.setCell]; omega, dg_set HI.out.2.2.2.2.2.out (by omega), by show _ = _; rw [HI.out.2.2.1, drop_set hjo, if_neg (by omega), if_neg (by omega)]⟩
              exact (HI.out.2.2.2.2.1.trans (HBB1.out.mono (by omega))).setCell (p := ⟨w2.heap.size, j, none⟩) (Nat.le_refl _) _
        · obtain rfl : k = X + 1 + s := by omega
          have hg0 : gk = 0 := by omega
          subst hg0
          have hadf := had.out
          rw [List.drop_zero, List.drop_zero, List.drop_zero] at hadf
          have hbt : BtR wr (.slice (some ⟨w2.heap.size, 0, none⟩) (X + 1 + s) (X + 1 + s)) ol := by
            have := btr_out hO hdg.out (by omega)
            rwa [hol] at this
          have hcn := canon_r hbt an s (by omega) (by omega)
          have hsmC : smS (an, al, asc) (bn, bl', bsc) = canS an ol s := by rw [HSM.out, hadf]
          rw [← hsmC] at hcn
          have hadS := HH.out.2.2.2.2.2.2.2.2.2.2.2.2.1
          have hAdP : ∀ (e : Ending) (w' : World), AdP (an, al, asc) (bn, bl', bsc) w e w' = (Below w.heap.size w w' ∧ match adS (an, al, asc) (bn, bl', bsc) with
            | .error x => e = .returned (.tuple #[nmV false (.slice none 0 0) 0, .int .i64 x])
            | .ok n => ∃ rv, e = .returned (.tuple #[nmV n.1 rv n.2.2, .int .i64 0]) ∧ BtR w' rv n.2.1) := fun _ _ => rfl
          generalize smS (an, al, asc) (bn, bl', bsc) = C at *
          have H5 : Hid _ := And.intro hcn (And.intro hadS (And.intro hAdP (And.intro hu3 hbw)))
          have hu3l := lt_of hu3
          clear hcn hadS hsmC hadf hbt had hAdP hu1 hu2 hu3 hbw hbr hO hdg HSM
          go_wp2_with fail
          refine Calls.mono H5.out.1 ?_
          rintro e w4 ⟨rv, rfl, hbt4, hrv4, hb4⟩
          obtain ⟨ra, rc, rfl, _, _⟩ := hbt4.form
          have hz4 := (hb4.block _ hu3l).trans H5.out.2.2.2.1
          have hb45 : Below w4.heap.size w4 (w4.alloc (.cells #[.bool C.1, .slice ra C.2.1.length rc, .int .i64 C.2.2] 29)) := (Below.refl _ _).alloc (Nat.le_refl _) _
          have hz5' := (hb45.block _ (lt_of hz4)).trans hz4
          have hT5 := nw_heap w4 (.cells #[.bool C.1, .slice ra C.2.1.length rc, .int .i64 C.2.2] 29)
          have hbw4 := H5.out.2.2.2.2.trans (hb4.mono H5.out.2.2.2.2.size)
          have hbw5 := hbw4.trans (hb45.mono hbw4.size)
          have hbt5 := hbt4.below hb45
          have hcl := (hbt4.lim).2
          obtain ⟨t0, t1, t2⟩ := bl3 hT5
          obtain ⟨r0, r1, r2⟩ := bl3 hz5'
          obtain ⟨rf0, rf1, rf2⟩ := bl3f hz5'
          have hszw4 := hbw4.size
          have hszr4 := hb4.size
          have H6 : Hid _ := And.intro hz5' (And.intro hbw5 (And.intro hbt5 hrv4))
          have hne : w.heap.size + 1 + 1 ≠ w4.heap.size := by omega
          clear hbt4 hrv4 hb4 hz4 hb45 hz5' hT5 hbw4 hbw5 hbt5
          unfold maxLen at hcl
          go_upto_region 28 with fail
          generalize (w4.alloc (.cells #[.bool C.1, .slice ra C.2.1.length rc, .int .i64 C.2.2] 29)) = W5 at *
          by_cases hbig : (4096 : Int) < C.2.1.length
          · go_wp2_with fail
            obtain ⟨k1, k2, k3, k4⟩ := set3 H6.out.2.1 (show w.heap.size ≤ w.heap.size + 1 + 1 by omega) H6.out.1 (.bool false) (.slice none 0 0) (.int .i64 0)
            generalize (((W5.setCell ⟨w.heap.size + 1 + 1, 0, none⟩ (.bool false)).setCell ⟨w.heap.size + 1 + 1, 1, none⟩ (.slice none 0 0)).setCell ⟨w.heap.size + 1 + 1, 2, none⟩ (.int .i64 0)) = W9 at *
            obtain ⟨j0, j1, j2⟩ := bl3 k1
            refine bodyPost_ret (v := .tuple #[nmV false (.slice none 0 0) 0, .int .i64 3]) (by simp [results, Try.results21, go_sem, j0, j1, j2]) rfl ?_
            rw [H5.out.2.2.1, H5.out.2.1, if_pos (by omega)]
            exact ⟨k2, rfl⟩
          · go_wp2_with fail
            obtain ⟨k1, k2, k3, k4⟩ := set3 H6.out.2.1 (show w.heap.size ≤ w.heap.size + 1 + 1 by omega) H6.out.1 (.bool C.1) (.slice ra C.2.1.length rc) (.int .i64 C.2.2)
            have hbt9 := H6.out.2.2.1.kept (Nat.le_of_eq k4.symm) k3 (fun k hk hn e => by have := H6.out.2.2.2 k hk; omega)
            generalize (((W5.setCell ⟨w.heap.size + 1 + 1, 0, none⟩ (.bool C.1)).setCell ⟨w.heap.size + 1 + 1, 1, none⟩ (.slice ra C.2.1.length rc)).setCell ⟨w.heap.size + 1 + 1, 2, none⟩ (.int .i64 C.2.2)) = W9 at *
            obtain ⟨j0, j1, j2⟩ := bl3 k1
            refine bodyPost_ret (v := .tuple #[nmV C.1 (.slice ra C.2.1.length rc) C.2.2, .int .i64 0]) (by simp [results, Try.results21, go_sem, j0, j1, j2]) rfl ?_
            rw [H5.out.2.2.1, H5.out.2.1, if_neg (by omega)]
            exact ⟨k2, _, rfl, hbt9⟩
end Go.Proofs.Ytakemkhgaicckaa
