/- The program: minus. -/
import Derived.Test.YtakemkhgaicckaaDoorE0
import Derived.Test.YtakemkhgaicckaaDoorD1
import Derived.Deep.RegionHeld3
namespace Go.Proofs.YtakemkhgaicckaaDoor
open Go.RowKit
set_option linter.unusedVariables false
set_option linter.unusedSimpArgs false

/-- What one write leaves. -/
theorem set_one {w W : World} {T T' i : Nat} {sl ol : List Int} {d : Int} (hS : W.heap[T]? = some (.cells (sl.map (Value.int .u8)).toArray 5 (0, 0))) (hS' : W.heap[T']? = some (.cells (ol.map (Value.int .u8)).toArray 5 (0, 0))) (hne : T ≠ T') (hb : Below T w W) (hz : W.heap.size = w.heap.size) :
    (W.setCell ⟨T, i, none⟩ (.int .u8 d)).heap[T]? = some (.cells ((sl.set i d).map (Value.int .u8)).toArray 5 (0, 0)) ∧ (W.setCell ⟨T, i, none⟩ (.int .u8 d)).heap[T']? = some (.cells (ol.map (Value.int .u8)).toArray 5 (0, 0)) ∧ Below T w (W.setCell ⟨T, i, none⟩ (.int .u8 d)) ∧ (W.setCell ⟨T, i, none⟩ (.int .u8 d)).heap.size = w.heap.size :=
  ⟨setO hS, grown_at (setC (i := i) (.int .u8 d) hS).1 hS' hne, hb.setCell (p := ⟨T, i, none⟩) (Nat.le_refl _) _, by simpa [World.setCell] using hz⟩
set_option maxRecDepth 100000 in
set_option maxHeartbeats 6400000 in
theorem minus_p {w : World} {T T' N : Nat} {rl ol : List Int} (hT : w.heap[T]? = some (.cells (rl.map (Value.int .u8)).toArray 5 (0, 0))) (hT' : w.heap[T']? = some (.cells (ol.map (Value.int .u8)).toArray 5 (0, 0))) (hne : T ≠ T') (hd : Dg rl) (hd' : Dg ol) (hl : rl.length = N) (hl' : ol.length = N) (hN : N ≤ 20000) (hV : dval ol ≤ dval rl) :
    Calls Tryd.prog 23 #[.slice (some ⟨T, 0, none⟩) N N, .slice (some ⟨T', 0, none⟩) N N] w fun e w' => e = .returned (.tuple #[]) ∧ ∃ sl, w'.heap[T]? = some (.cells (sl.map (Value.int .u8)).toArray 5 (0, 0)) ∧ Dg sl ∧ sl.length = N ∧ dval sl = dval rl - dval ol ∧ Below T w w' ∧ w'.heap.size = w.heap.size := by
  obtain ⟨V, hVe⟩ : ∃ V, dval rl - dval ol = V := ⟨_, rfl⟩
  rw [hVe]
  have hV0 : 0 ≤ V := by omega
  have hst : dval rl - tkv ol N = V := by rw [← hl', tk_full]; exact hVe
  have HH : Hid _ := And.intro hT (And.intro hT' (And.intro hd (And.intro hd' (And.intro hl (And.intro hl' (And.intro hV0 hst))))))
  clear hT hT' hd hd' hl hl' hV hst hVe hV0
  go_enter Tryd.func23, Tryd.ntmps23
  go_wp2_with fail
  go_step3
  go_wp2_with fail
  go_step3
  go_wp2_with fail
  go_loopg [4] N (fun m v4 wr => v4 = .int .i64 ((m : Int) - 1) ∧ m ≤ N ∧ ∃ sl : List Int, wr.heap[T]? = some (.cells (sl.map (Value.int .u8)).toArray 5 (0, 0)) ∧ wr.heap[T']? = some (.cells (ol.map (Value.int .u8)).toArray 5 (0, 0)) ∧ Hid (Dg sl ∧ sl.length = N ∧ dval sl - tkv ol m = V ∧ Below T w wr ∧ wr.heap.size = w.heap.size))
  case atStart => exact ⟨rfl, Nat.le_refl _, rl, HH.out.1, HH.out.2.1, HH.out.2.2.1, HH.out.2.2.2.2.1, HH.out.2.2.2.2.2.2.2, Below.refl _ _, rfl⟩
  case round =>
    obtain ⟨rfl, hgN, sl, hS, hS', hI⟩ := hrel
    rcases gk with _ | j
    · have hF := hI.out
      have HF : Hid _ := And.intro hS hF
      clear hS hS' hI hF
      go_wp2_with fail
      try rw [Exit.noGoto_normal]
      go_end0
      exact ⟨rfl, sl, HF.out.1, HF.out.2.1, HF.out.2.2.1, by have := HF.out.2.2.2.1; rw [tk_zero] at this; omega, HF.out.2.2.2.2.1, HF.out.2.2.2.2.2⟩
    · have hj : j < sl.length := by rw [hI.out.2.1]; omega
      have hj' : j < ol.length := by rw [HH.out.2.2.2.2.2.1]; omega
      have hll : ol.length = sl.length := by rw [HH.out.2.2.2.2.2.1, hI.out.2.1]
      obtain ⟨c1, f1⟩ := cellO hS hj
      obtain ⟨c2, f2⟩ := cellO hS' hj'
      have bx := hI.out.1 _ (List.getElem_mem hj)
      have by' := HH.out.2.2.2.1 _ (List.getElem_mem hj')
      have hbr : Below T w wr.drew := hI.out.2.2.2.1.trans ((Below.drewN' 1).mono (Nat.le_of_lt (lt_of hS)))
      have hbr2 : Below T w wr.drew.drew := hbr.trans ((Below.drewN' (w := wr.drew) 1).mono (Nat.le_of_lt (lt_of hS)))
      have hj1 : (j : Int) < (N : Int) := by omega
      have hj2 : (0 : Int) ≤ (j : Int) := by omega
      have hji : ((j + 1 : Nat) : Int) - 1 = (j : Int) := by omega
      rw [hji]
      by_cases hge : ol[j]'hj' ≤ sl[j]'hj
      · have o1 := set_one (i := j) (d := sl[j]'hj - ol[j]'hj') (W := wr.drew.drew) hS hS' hne hbr2 hI.out.2.2.2.2
        have o2 := minus_in hj hll hI.out.2.2.1
        have o3 : Dg (sl.set j (sl[j]'hj - ol[j]'hj')) := dg_set' hI.out.1 (by omega)
        have o4 : (sl.set j (sl[j]'hj - ol[j]'hj')).length = N := by rw [List.length_set]; exact hI.out.2.1
        have HJ : Hid _ := And.intro o1.1 (And.intro o1.2.1 (And.intro o3 (And.intro o4 (And.intro o2 o1.2.2))))
        clear o1 o2 o3 o4 hS hS' f2 hI hbr hbr2
        generalize hx : sl[j]'hj = x at *
        generalize hy : ol[j]'hj' = y at *
        obtain ⟨bx1, bx2⟩ := bx
        obtain ⟨by1, by2⟩ := by'
        clear hx hy
        go_wp2_with fail
        go_region
        all_goals
          go_wp2_with fail
          go_region
          all_goals
            go_wp2_with fail
            go_roundg j
            case measure => omega
            case rel => exact ⟨by simp, by omega, _, HJ.out.1, HJ.out.2.1, HJ.out.2.2⟩
      · have o1 := set_one (i := j) (d := sl[j]'hj + (10 - ol[j]'hj')) (W := wr.drew.drew) hS hS' hne hbr2 hI.out.2.2.2.2
        have o2 := minus_out hj hll hI.out.2.2.1
        have o3 : Dg (sl.set j (sl[j]'hj + (10 - ol[j]'hj'))) := dg_set' hI.out.1 (by omega)
        have o4 : (sl.set j (sl[j]'hj + (10 - ol[j]'hj'))).length = N := by rw [List.length_set]; exact hI.out.2.1
        rw [hI.out.2.1] at o2
        have HJ : Hid _ := And.intro o1.1 (And.intro o1.2.1 (And.intro o3 (And.intro o4 (And.intro o2 o1.2.2))))
        clear o1 o2 o3 o4 hS hS' f2 hI hbr hbr2
        generalize hx : sl[j]'hj = x at *
        generalize hy : ol[j]'hj' = y at *
        obtain ⟨bx1, bx2⟩ := bx
        obtain ⟨by1, by2⟩ := by'
        clear hx hy
        go_wp2_with fail
        go_region
        all_goals
          go_wp2_with fail
          go_region
          all_goals
            go_wp2_with fail
            go_loopg [5] j (fun k v5 wq => v5 = .int .i64 ((k : Int) - 1) ∧ k ≤ j ∧ ∃ s2 : List Int, wq.heap[T]? = some (.cells (s2.map (Value.int .u8)).toArray 5 (0, 0)) ∧ wq.heap[T']? = some (.cells (ol.map (Value.int .u8)).toArray 5 (0, 0)) ∧ Hid (Dg s2 ∧ s2.length = N ∧ dval s2 - p10 (N - k) - tkv ol j = V ∧ Below T w wq ∧ wq.heap.size = w.heap.size))
            case atStart => exact ⟨rfl, Nat.le_refl _, _, HJ.out.1, HJ.out.2.1, HJ.out.2.2⟩
            case round =>
              clear c1 c2 f1 HJ
              obtain ⟨rfl, hkj, q, hQ, hQ', hI⟩ := hrel
              rcases gk with _ | k
              · exfalso
                have t1 := (dval_bd hI.out.1).2
                have t2 := hI.out.2.2.1
                have t3 := tk_nn HH.out.2.2.2.1 j
                have t4 := HH.out.2.2.2.2.2.2.1
                rw [hI.out.2.1] at t1
                rw [Nat.sub_zero] at t2
                omega
              · have hk : k < q.length := by rw [hI.out.2.1]; omega
                obtain ⟨c1, f1⟩ := cellO hQ hk
                have bz := hI.out.1 _ (List.getElem_mem hk)
                have hki : ((k + 1 : Nat) : Int) - 1 = (k : Int) := by omega
                have hk1 : (k : Int) < (N : Int) := by omega
                have hk2 : (0 : Int) ≤ (k : Int) := by omega
                have hln := hI.out.2.1
                have hv := hI.out.2.2.1
                rw [← hln] at hv
                rw [hki]
                by_cases h0 : 0 < q[k]'hk
                · have o1 := set_one (i := k) (d := q[k]'hk - 1) hQ hQ' hne hI.out.2.2.2.1 hI.out.2.2.2.2
                  have o2 := lend hk hv
                  have o3 : Dg (q.set k (q[k]'hk - 1)) := dg_set' hI.out.1 (by omega)
                  have o4 : (q.set k (q[k]'hk - 1)).length = N := by rw [List.length_set]; exact hln
                  have HF : Hid _ := And.intro o1.1 (And.intro o1.2.1 (And.intro o3 (And.intro o4 (And.intro o2 o1.2.2))))
                  clear o1 o2 o3 o4 hQ hQ' hI hv hln
                  generalize q[k]'hk = z at *
                  obtain ⟨bz1, bz2⟩ := bz
                  go_wp2_with fail
                  go_roundg j
                  case measure => omega
                  case rel => exact ⟨by simp, by omega, _, HF.out.1, HF.out.2.1, HF.out.2.2⟩
                · have hz : q[k]'hk = 0 := by omega
                  have o1 := set_one (i := k) (d := 9) hQ hQ' hne hI.out.2.2.2.1 hI.out.2.2.2.2
                  have o2 := lend_on hk hz hv
                  have o3 : Dg (q.set k 9) := dg_set' hI.out.1 (by omega)
                  have o4 : (q.set k 9).length = N := by rw [List.length_set]; exact hln
                  rw [hln] at o2
                  have HF : Hid _ := And.intro o1.1 (And.intro o1.2.1 (And.intro o3 (And.intro o4 (And.intro o2 o1.2.2))))
                  rw [hz] at c1
                  clear o1 o2 o3 o4 hQ hQ' hI hv hln bz h0 hz
                  go_wp2_with fail
                  go_roundg k
                  case measure => omega
                  case rel => exact ⟨by simp, by omega, _, HF.out.1, HF.out.2.1, HF.out.2.2⟩
end Go.Proofs.YtakemkhgaicckaaDoor
