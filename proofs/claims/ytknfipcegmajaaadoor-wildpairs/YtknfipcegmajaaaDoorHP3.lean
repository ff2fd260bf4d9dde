/- Grow and Concat, of texts. -/
import Derived.Test.YtknfipcegmajaaaDoorHP2
import Derived.Lib.AppendZeros
namespace Go.Proofs.YtknfipcegmajaaaDoor
open Go.RowKit
set_option linter.unusedVariables false
set_option linter.unusedSimpArgs false

set_option maxRecDepth 8000 in
set_option maxHeartbeats 1000000 in
theorem grow_s (n : Nat) (w : World) (hn : n ≤ 1000000) : Calls Tryd.prog 53 #[.slice none 0 0, .int .i64 (n : Int)] w fun e w' => ∃ v, e = .returned v ∧ OwS w' w.heap.size v [] ∧ Below w.heap.size w w' := by
  obtain ⟨i50, hi50, hz0, hz1, hz3⟩ := info_sp
  by_cases h0 : n = 0
  · subst h0
    go_enter Tryd.func53, Tryd.ntmps53
    go_wp2_with fail
    go_ret
    exact ⟨_, rfl, OwS.nil _ _, Below.refl _ _⟩
  · have happ := Lib.run_append_nil_zeros (P := Tryd.prog) w 23 3 23 9 i50 (.string ⟨#[]⟩) .i64 .i64 Tryd.underlying23 Tryd.underlying3 hi50 hz0 n (by omega) (by omega) (by omega) (by rw [hz3]; omega)
    generalize hcap : grownCap w n 0 9 = cap2 at happ
    have hcapge : n ≤ cap2 := by rw [← hcap]; exact grownCap_ge w _ 0 9
    have hcaple : cap2 ≤ maxLen := by rw [← hcap]; exact grownCap_le_maxLen w _ 0 9 (by unfold maxLen; omega)
    generalize hZ : (Builtin.zeroCells (Value.cells (.string ⟨#[]⟩)) n ++ Builtin.zeroCells (Value.cells (.string ⟨#[]⟩)) (cap2 - n)) = Z at happ
    have hZs : Z.size = cap2 * 1 := by rw [← hZ]; simp [size_zeroCells, Value.cells]; omega
    have hbel : Below w.heap.size w (w.drew.alloc (.cells Z 9)) := ⟨rfl, rfl, rfl, by simp, fun k hk => Below.heap_alloc w _ k hk⟩
    have hown : OwS (w.drew.alloc (.cells Z 9)) w.heap.size (.slice (some ⟨w.heap.size, 0, none⟩) 0 cap2) [] := ⟨rfl, .inr ⟨w.heap.size, cap2, Z, rfl, Nat.le_refl _, heap_alloc_new w _, Nat.zero_le _, hcaple, hZs, by simp [tc]⟩⟩
    have HA : Hid _ := And.intro happ (And.intro hbel hown)
    unfold maxLen at hcaple
    clear hcap hZ happ hbel hown hZs
    have d1 : (0 : Int) < (n : Int) := by omega
    go_enter Tryd.func53, Tryd.ntmps53
    go_wp2_with (first | (at_builtin; go_loud (refine Lib.wpList_append_run _ rfl (.tmp 20) (.tmp 21) 23 3 rfl _ _ rfl rfl _ _ HA.out.1 ?_)))
    go_ret
    exact ⟨_, rfl, HA.out.2.2, HA.out.2.1⟩
theorem flat_snoc {α : Type} (L : List (List α)) (k : Nat) (h : k < L.length) : (L.take (k + 1)).flatten = (L.take k).flatten ++ L[k] := by
  rw [take_snoc h, List.flatten_append]
  simp
def CatQ (l : List Tx) (w : World) (e : Ending) (w' : World) : Prop := ∃ v, e = .returned v ∧ OwS w' w.heap.size v l ∧ Below w.heap.size w w'
/-- Where the second loop stands. -/
def Cat2 (l : List Tx) (w : World) (v : Value) (wr : World) : Prop := OwS wr w.heap.size v l ∧ Below w.heap.size w wr
set_option maxRecDepth 8000 in
set_option maxHeartbeats 4000000 in
theorem concat_s (g m : Nat) (vs : Nat → Value) (L : List (List Tx)) (w : World) (hg : g < w.heap.size) (hc : ∀ j, j < L.length → w.cell? ⟨g, j, none⟩ = some (vs j)) (hs : ∀ j (hj : j < L.length), TxR w (vs j) L[j]) (hm : L.length = m) (hm2 : m ≤ 100) (hn : L.flatten.length ≤ 100000) :
    Calls Tryd.prog 46 #[.slice (some ⟨g, 0, none⟩) m m] w fun e w' => CatQ L.flatten w e w' := by
  obtain ⟨i50, hi50, hz0, hz1, hz3⟩ := info_sp
  have hpre : ∀ k, (L.take k).flatten.length ≤ L.flatten.length := fun k => by
    conv => rhs; rw [← List.take_append_drop k L]
    rw [List.flatten_append, List.length_append]
    omega
  have HX : Hid _ := And.intro hc (And.intro hs (And.intro hm (And.intro hn hpre)))
  clear hc hs hm hn hpre
  go_enter Tryd.func46, Tryd.ntmps46
  go_wp2_with fail
  go_loopg [3, 11] m (fun g' v3 v11 wr => ∃ k : Nat, k + g' = m ∧ v11 = .int .i64 (k : Int) ∧ v3 = .int .i64 ((L.take k).flatten.length : Nat) ∧ wr = w)
  case atStart => exact ⟨0, by omega, rfl, rfl, rfl⟩
  case round =>
    obtain ⟨k, hk, rfl, rfl, hw⟩ := hrel
    have hw' := hw.symm
    clear hw
    subst hw'
    have hp := HX.out.2.2.2.2 k
    have hl := HX.out.2.2.2.1
    by_cases hlt : k < m
    · obtain ⟨gg, rfl⟩ : ∃ gg, gk = gg + 1 := ⟨gk - 1, by omega⟩
      have hkl : k < L.length := by have := HX.out.2.2.1; omega
      have e0 := HX.out.1 k hkl
      obtain ⟨xa, xc, hv, _⟩ := (HX.out.2.1 k hkl).len
      rw [hv] at e0
      have hfs := congrArg List.length (flat_snoc L k hkl)
      rw [List.length_append] at hfs
      have hp2 := HX.out.2.2.2.2 (k + 1)
      generalize hS : (L.take k).flatten.length = S at *
      generalize hK : L[k].length = K at *
      generalize L.flatten.length = N at *
      have HS : Hid _ := hfs
      have hb1 : S + K ≤ 100000 := by omega
      clear hfs hp2 hS hK hv
      go_wp2_with fail
      go_roundg gg
      case measure => omega
      case rel => exact ⟨k + 1, by omega, by simp, by rw [HS.out, Int.natCast_add], rfl⟩
    · have hkl : k = m := by omega
      subst hkl
      generalize hS : (L.take k).flatten.length = S at *
      generalize hNN : L.flatten.length = N at *
      have q1 := grow_s S w (by omega)
      have HQ : Hid _ := q1
      clear q1 hS hNN
      go_wp2_with fail
      refine Calls.mono HQ.out ?_
      rintro e w1 ⟨v1, rfl, hown1, hb1⟩
      have H1 : Hid _ := And.intro hown1 hb1
      clear hown1 hb1
      go_wp2_with fail
      go_loopg [6, 27] k (fun g' v6 v27 wr => ∃ j : Nat, j + g' = k ∧ v27 = .int .i64 (j : Int) ∧ Cat2 (L.take j).flatten w v6 wr)
      case atStart => exact ⟨0, by omega, rfl, H1.out.1, H1.out.2⟩
      case round =>
        obtain ⟨j, hj, rfl, hown, hb⟩ := hrel
        obtain ⟨ya, yc, rfl⟩ := row_form hown
        have HB : Hid _ := And.intro hown hb
        clear hown hb
        by_cases hjk : j < k
        · obtain ⟨gg, rfl⟩ : ∃ gg, gk = gg + 1 := ⟨gk - 1, by omega⟩
          have hjl : j < L.length := by have := HX.out.2.2.1; omega
          have e0 := (HB.out.2.cell (p := ⟨g, j, none⟩) hg).trans (HX.out.1 j hjl)
          have hsl := (HX.out.2.1 j hjl).below HB.out.2
          obtain ⟨xa, xc, hv, _⟩ := hsl.len
          rw [hv] at e0 hsl
          have hnw := tx_news hsl
          have hfl := flat_snoc L j hjl
          have hp2 := HX.out.2.2.2.2 (j + 1)
          have hn2 := HX.out.2.2.2.1
          have hll := congrArg List.length hfl
          rw [List.length_append] at hll
          have hsum : (L.take j).flatten.length + L[j].length ≤ 100000 := by omega
          generalize L[j] = R at *
          have HW : Hid _ := And.intro hnw hfl
          obtain ⟨P, hP⟩ : ∃ P, (L.take j).flatten = P := ⟨_, rfl⟩
          have HPP : Hid _ := hP
          rw [hP] at HB HW hsum ⊢
          have hrl := tc_len R
          have HRL : Hid _ := hrl
          clear hsl hnw hfl hv hP hll hp2 hn2 hrl
          go_wp2_with (first | (at_builtin; go_loud (refine wpList_app (P := Tryd.prog) wr rfl (.tmp 31) (.tmp 32) 23 rfl w.heap.size 9 i50 (.string ⟨#[]⟩) 1 16 Tryd.underlying23 hi50 hz0 hz1 hz3 rfl (by decide) (.slice ya P.length yc) P.length (tc P) rfl HB.out.1 xa R.length xc (tc R) rfl (by rw [Nat.mul_one]; exact HRL.out) HW.out.1 (tc_one R) (by unfold maxLen; omega) (by omega) HB.out.2.size ?_); intro v' w7 hown7 hg7 hat7; have H7 : Hid _ := And.intro hown7 (HB.out.2.grown hg7 HB.out.2.size (fun q hq => (row_base HB.out.1 q hq).1)); clear hown7 hg7 hat7))
          go_roundg gg
          case measure => omega
          case rel =>
            refine ⟨j + 1, by omega, by simp, ?_, H7.out.2⟩
            rw [HW.out.2]
            unfold OwS
            rw [List.length_append, tc_app]
            exact H7.out.1
        · have hjk' : j = k := by omega
          subst hjk'
          have htk : (L.take j) = L := List.take_of_length_le (by have := HX.out.2.2.1; omega)
          rw [htk] at HB ⊢
          clear htk
          go_wp2_with fail
          go_ret
          exact ⟨_, rfl, HB.out.1, HB.out.2⟩
end Go.Proofs.YtknfipcegmajaaaDoor
