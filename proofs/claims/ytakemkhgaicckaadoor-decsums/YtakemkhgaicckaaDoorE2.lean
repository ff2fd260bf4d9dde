/- The program: plus. -/
import Derived.Test.YtakemkhgaicckaaDoorE0
import Derived.Test.YtakemkhgaicckaaDoorD1
import Derived.Deep.RegionHeld3
namespace Go.Proofs.YtakemkhgaicckaaDoor
open Go.RowKit
set_option linter.unusedVariables false
set_option linter.unusedSimpArgs false

set_option maxRecDepth 100000 in
set_option maxHeartbeats 6400000 in
theorem plus_p {w : World} {T T' N : Nat} {rl ol : List Int} (hT : w.heap[T]? = some (.cells (rl.map (Value.int .u8)).toArray 5 (0, 0))) (hT' : w.heap[T']? = some (.cells (ol.map (Value.int .u8)).toArray 5 (0, 0))) (hne : T ≠ T') (hd : Dg rl) (hd' : Dg ol) (hl : rl.length = N) (hl' : ol.length = N) (hN : N ≤ 20000) (hV : dval rl + dval ol < p10 N) :
    Calls Tryd.prog 22 #[.slice (some ⟨T, 0, none⟩) N N, .slice (some ⟨T', 0, none⟩) N N] w fun e w' => e = .returned (.tuple #[]) ∧ ∃ sl, w'.heap[T]? = some (.cells (sl.map (Value.int .u8)).toArray 5 (0, 0)) ∧ Dg sl ∧ sl.length = N ∧ dval sl = dval rl + dval ol ∧ Below T w w' ∧ w'.heap.size = w.heap.size := by
  obtain ⟨V, hVe⟩ : ∃ V, dval rl + dval ol = V := ⟨_, rfl⟩
  rw [hVe] at hV
  rw [hVe]
  have hst : dval rl + tkv ol N = V := by rw [← hl', tk_full]; exact hVe
  have HH : Hid _ := And.intro hT (And.intro hT' (And.intro hd (And.intro hd' (And.intro hl (And.intro hl' (And.intro hV hst))))))
  clear hT hT' hd hd' hl hl' hV hst hVe
  go_enter Tryd.func22, Tryd.ntmps22
  go_wp2_with fail
  go_step3
  go_wp2_with fail
  go_step3
  go_wp2_with fail
  go_loopg [4] N (fun m v4 wr => v4 = .int .i64 ((m : Int) - 1) ∧ m ≤ N ∧ ∃ sl : List Int, wr.heap[T]? = some (.cells (sl.map (Value.int .u8)).toArray 5 (0, 0)) ∧ wr.heap[T']? = some (.cells (ol.map (Value.int .u8)).toArray 5 (0, 0)) ∧ Hid (Dg sl ∧ sl.length = N ∧ dval sl + tkv ol m = V ∧ Below T w wr ∧ wr.heap.size = w.heap.size))
  case atStart => exact ⟨rfl, Nat.le_refl _, rl, HH.out.1, HH.out.2.1, HH.out.2.2.1, HH.out.2.2.2.2.1, HH.out.2.2.2.2.2.2.2, Below.refl _ _, rfl⟩
  case round =>
    obtain ⟨rfl, hgN, sl, hS, hS', hI⟩ := hrel
    rcases gk with _ | j
    · have hF := hI.out
      have HF : Hid _ := And.intro hS hF
      clear hS hS' hI hF
      go_wp2_with fail
      try rw [Exit.noGoto_normal]
      go_end0
      exact ⟨rfl, sl, HF.out.1, HF.out.2.1, HF.out.2.2.1, by have := HF.out.2.2.2.1; rw [tk_zero] at this; omega, HF.out.2.2.2.2.1, HF.out.2.2.2.2.2⟩
    · have hj : j < sl.length := by rw [hI.out.2.1]; omega
      have hj' : j < ol.length := by rw [HH.out.2.2.2.2.2.1]; omega
      obtain ⟨c1, f1⟩ := cellO hS hj
      obtain ⟨c2, f2⟩ := cellO hS' hj'
      have bx := hI.out.1 _ (List.getElem_mem hj)
      have by' := HH.out.2.2.2.1 _ (List.getElem_mem hj')
      have hin := plus_in hj (by rw [HH.out.2.2.2.2.2.1, hI.out.2.1]) hI.out.2.2.1
      have hd1 := Dg1.of (e := ol[j]'hj') hI.out.1 hj by'
      have s1 := setO (i := j) (d := sl[j]'hj + ol[j]'hj') (W := wr.drew) hS
      have s2 := grown_at (setC (W := wr.drew) (i := j) (.int .u8 (sl[j]'hj + ol[j]'hj')) hS).1 hS' hne
      have s3 : Below T w (wr.drew.setCell ⟨T, j, none⟩ (.int .u8 (sl[j]'hj + ol[j]'hj'))) := (hI.out.2.2.2.1.trans ((Below.drewN' 1).mono (Nat.le_of_lt (lt_of hS)))).setCell (p := ⟨T, j, none⟩) (Nat.le_refl _) _
      have s4 : (wr.drew.setCell ⟨T, j, none⟩ (.int .u8 (sl[j]'hj + ol[j]'hj'))).heap.size = w.heap.size := by
        have := hI.out.2.2.2.2
        simpa [World.setCell] using this
      have s5 : (sl.set j (sl[j]'hj + ol[j]'hj')).length = N := by rw [List.length_set]; exact hI.out.2.1
      have HJ : Hid _ := And.intro s1 (And.intro s2 (And.intro hd1 (And.intro s5 (And.intro hin (And.intro s3 s4)))))
      have hj1 : (j : Int) < (N : Int) := by omega
      have hj2 : (0 : Int) ≤ (j : Int) := by omega
      have hji : ((j + 1 : Nat) : Int) - 1 = (j : Int) := by omega
      clear s1 s2 s3 s4 s5 hd1 hin hS hS' f2
      generalize hx : sl[j]'hj = x at *
      generalize hy : ol[j]'hj' = y at *
      obtain ⟨bx1, bx2⟩ := bx
      obtain ⟨by1, by2⟩ := by'
      clear hx hy
      rw [hji]
      go_wp2_with fail
      go_region
      all_goals
        go_wp2_with fail
        go_loopg [5] j (fun k v5 wq => v5 = .int .i64 k ∧ k ≤ j ∧ ∃ s2 : List Int, wq.heap[T]? = some (.cells (s2.map (Value.int .u8)).toArray 5 (0, 0)) ∧ wq.heap[T']? = some (.cells (ol.map (Value.int .u8)).toArray 5 (0, 0)) ∧ Hid (Dg1 s2 k ∧ s2.length = N ∧ dval s2 + tkv ol j = V ∧ Below T w wq ∧ wq.heap.size = w.heap.size))
        case atStart => exact ⟨rfl, Nat.le_refl _, _, HJ.out.1, HJ.out.2.1, HJ.out.2.2⟩
        case round =>
          clear c1 c2 f1 HJ hI
          obtain ⟨rfl, hkj, q, hQ, hQ', hI⟩ := hrel
          have hk : gk < q.length := by rw [hI.out.2.1]; omega
          obtain ⟨c1, f1⟩ := cellO hQ hk
          have hdk := hI.out.1 gk hk
          have hk1 : (gk : Int) < (N : Int) := by omega
          have hk2 : (0 : Int) ≤ (gk : Int) := by omega
          have hk3 : gk < N := by omega
          by_cases h9 : q[gk]'hk ≤ 9
          · have hdg := hI.out.1.dg hk h9
            have HF : Hid _ := And.intro hQ (And.intro hQ' (And.intro hdg hI.out.2))
            generalize q[gk]'hk = z at *
            obtain ⟨hz1, hz2, _⟩ := hdk
            clear hQ hQ' hdg hI
            go_wp2_with fail
            go_roundg j
            case measure => omega
            case rel => exact ⟨by simp, by omega, q, HF.out.1, HF.out.2.1, HF.out.2.2⟩
          · rcases gk with _ | k
            · exfalso
              have t1 := carry_top hI.out.1 hk (by omega)
              have t2 := hI.out.2.2.1
              have t3 := tk_nn HH.out.2.2.2.1 j
              have t4 := HH.out.2.2.2.2.2.2.1
              rw [hI.out.2.1] at t1
              omega
            · have hk0 : k < q.length := by omega
              obtain ⟨d1, d2⟩ := carry hI.out.1 hk (by omega)
              have hdk0 := hI.out.1 k hk0
              obtain ⟨c0, f0⟩ := cellO hQ hk0
              have s1 := setO (i := k) (d := q[k]'hk0 + 1) (setO (i := k + 1) (d := q[k + 1]'hk - 10) hQ)
              have s2 := grown_at (setC (i := k) (.int .u8 (q[k]'hk0 + 1)) (setO (i := k + 1) (d := q[k + 1]'hk - 10) hQ)).1 (grown_at (setC (i := k + 1) (.int .u8 (q[k + 1]'hk - 10)) hQ).1 hQ' hne) hne
              have s3 : Below T w ((wr.setCell ⟨T, k + 1, none⟩ (.int .u8 (q[k + 1]'hk - 10))).setCell ⟨T, k, none⟩ (.int .u8 (q[k]'hk0 + 1))) := (hI.out.2.2.2.1.setCell (p := ⟨T, k + 1, none⟩) (Nat.le_refl _) _).setCell (p := ⟨T, k, none⟩) (Nat.le_refl _) _
              have s4 : ((wr.setCell ⟨T, k + 1, none⟩ (.int .u8 (q[k + 1]'hk - 10))).setCell ⟨T, k, none⟩ (.int .u8 (q[k]'hk0 + 1))).heap.size = w.heap.size := by
                have := hI.out.2.2.2.2
                simpa [World.setCell] using this
              have s5 : ((q.set (k + 1) (q[k + 1]'hk - 10)).set k (q[k]'hk0 + 1)).length = N := by rw [List.length_set, List.length_set]; exact hI.out.2.1
              have s6 : dval ((q.set (k + 1) (q[k + 1]'hk - 10)).set k (q[k]'hk0 + 1)) + tkv ol j = V := by rw [d2]; exact hI.out.2.2.1
              have HF : Hid _ := And.intro s1 (And.intro s2 (And.intro d1 (And.intro s5 (And.intro s6 (And.intro s3 s4)))))
              clear s1 s2 s3 s4 s5 s6 d1 d2 hQ hQ' hI
              generalize q[k + 1]'hk = z at *
              generalize q[k]'hk0 = z0 at *
              obtain ⟨hz1, hz2, _⟩ := hdk
              obtain ⟨hy1, hy2, _⟩ := hdk0
              have hki : ((k + 1 : Nat) : Int) - 1 = (k : Int) := by omega
              have hkk : k + 1 ≠ k := by omega
              go_wp2_with fail
              go_roundg k
              case measure => omega
              case rel => exact ⟨by simp, by omega, _, HF.out.1, HF.out.2.1, HF.out.2.2⟩
end Go.Proofs.YtakemkhgaicckaaDoor
