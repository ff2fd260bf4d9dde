/- The program: Concat, Union. -/
import Derived.Test.YthlkbijpphdblaaP7
namespace Go.Proofs.Ythlkbijpphdblaa
open Go.RowKit
set_option linter.unusedVariables false

theorem addr_off (g off j : Nat) : Addr.add ⟨g, off, none⟩ j = ⟨g, off + j, none⟩ := by unfold Addr.add; split <;> simp_all
theorem sl_news {k : IntKind} {w : World} {a : Option Addr} {c n : Nat} {l : List Rg} (h : Sl k w (.slice a n c) l) : n = 0 ∨ ∃ ad, a = some ad ∧ ∀ j u, (l.flatMap (ec k))[j]? = some u → w.cell? (ad.add j) = some u := by
  obtain ⟨a', c', e, _, h⟩ := h
  simp only [Value.slice.injEq] at e
  obtain ⟨rfl, rfl, rfl⟩ := e
  rcases h with h | ⟨g, off, rfl, hg, h⟩
  · exact .inl (by rw [h]; rfl)
  · refine .inr ⟨_, rfl, fun j u hu => ?_⟩
    rw [addr_off]
    have hj : j < l.length * 2 := by
      rw [← ec_len k l]
      exact (List.getElem?_eq_some_iff.1 hu).1
    obtain ⟨q, hq⟩ : ∃ q, j / 2 = q := ⟨_, rfl⟩
    have hql : q < l.length := by omega
    have hh := h q hql
    have he := ec_get k l q hql
    rcases Nat.mod_two_eq_zero_or_one j with e | e
    · have e2 : j = q * 2 := by omega
      rw [e2] at hu ⊢
      rw [he.1] at hu
      obtain rfl := Option.some.inj hu
      exact hh.1
    · have e2 : j = q * 2 + 1 := by omega
      rw [e2] at hu ⊢
      rw [he.2] at hu
      obtain rfl := Option.some.inj hu
      rw [← Nat.add_assoc]
      exact hh.2
theorem flat_snoc {α : Type} (L : List (List α)) (k : Nat) (h : k < L.length) : (L.take (k + 1)).flatten = (L.take k).flatten ++ L[k] := by
  rw [take_snoc h, List.flatten_append]
  simp
def CatQ (l : List Rg) (w : World) (e : Ending) (w' : World) : Prop := ∃ v, e = .returned v ∧ Own .i32 64 w' w.heap.size v l ∧ Below w.heap.size w w'
/-- Where the second loop stands. -/
def Cat2 (l : List Rg) (w : World) (v : Value) (wr : World) : Prop := Own .i32 64 wr w.heap.size v l ∧ Below w.heap.size w wr
set_option maxRecDepth 8000 in
set_option maxHeartbeats 4000000 in
theorem concat_p (g m : Nat) (vs : Nat → Value) (L : List (List Rg)) (w : World) (hg : g < w.heap.size) (hc : ∀ j, j < L.length → w.cell? ⟨g, j, none⟩ = some (vs j)) (hs : ∀ j (hj : j < L.length), Sl .i32 w (vs j) L[j]) (hm : L.length = m) (hm2 : m ≤ 100) (hn : L.flatten.length ≤ 100000) :
    Calls Try.prog 44 #[.slice (some ⟨g, 0, none⟩) m m] w fun e w' => CatQ L.flatten w e w' := by
  obtain ⟨i50, z50, hi50, hz0, hzc, hz1, hz3⟩ := info_rgp
  have hpre : ∀ k, (L.take k).flatten.length ≤ L.flatten.length := fun k => by
    conv => rhs; rw [← List.take_append_drop k L]
    rw [List.flatten_append, List.length_append]
    omega
  have HX : Hid _ := And.intro hc (And.intro hs (And.intro hm (And.intro hn hpre)))
  clear hc hs hm hn hpre
  go_enter Try.func44, Try.ntmps44
  go_wp2_with fail
  go_loopg [3, 11] m (fun g' v3 v11 wr => ∃ k : Nat, k + g' = m ∧ v11 = .int .i64 (k : Int) ∧ v3 = .int .i64 ((L.take k).flatten.length : Nat) ∧ wr = w)
  case atStart => exact ⟨0, by omega, rfl, rfl, rfl⟩
  case round =>
    obtain ⟨k, hk, rfl, rfl, hw⟩ := hrel
    have hw' := hw.symm
    clear hw
    subst hw'
    have hp := HX.out.2.2.2.2 k
    have hl := HX.out.2.2.2.1
    by_cases hlt : k < m
    · obtain ⟨gg, rfl⟩ : ∃ gg, gk = gg + 1 := ⟨gk - 1, by omega⟩
      have hkl : k < L.length := by have := HX.out.2.2.1; omega
      have e0 := HX.out.1 k hkl
      obtain ⟨xa, xc, hv, _⟩ := (HX.out.2.1 k hkl).len
      rw [hv] at e0
      have hfs := congrArg List.length (flat_snoc L k hkl)
      rw [List.length_append] at hfs
      have hp2 := HX.out.2.2.2.2 (k + 1)
      generalize hS : (L.take k).flatten.length = S at *
      generalize hK : L[k].length = K at *
      generalize L.flatten.length = N at *
      have HS : Hid _ := hfs
      have hb1 : S + K ≤ 100000 := by omega
      clear hfs hp2 hS hK hv
      go_wp2_with fail
      go_roundg gg
      case measure => omega
      case rel => exact ⟨k + 1, by omega, by simp, by rw [HS.out, Int.natCast_add], rfl⟩
    · have hkl : k = m := by omega
      subst hkl
      generalize hS : (L.take k).flatten.length = S at *
      generalize hNN : L.flatten.length = N at *
      have q1 := grow_p S w (by omega)
      have HQ : Hid _ := q1
      clear q1 hS hNN
      go_wp2_with fail
      refine Calls.mono HQ.out ?_
      rintro e w1 ⟨v1, rfl, hown1, hb1⟩
      have H1 : Hid _ := And.intro hown1 hb1
      clear hown1 hb1
      go_wp2_with fail
      go_loopg [6, 27] k (fun g' v6 v27 wr => ∃ j : Nat, j + g' = k ∧ v27 = .int .i64 (j : Int) ∧ Cat2 (L.take j).flatten w v6 wr)
      case atStart => exact ⟨0, by omega, rfl, H1.out.1, H1.out.2⟩
      case round =>
        obtain ⟨j, hj, rfl, hown, hb⟩ := hrel
        obtain ⟨ya, yc, rfl⟩ := row_form hown
        have HB : Hid _ := And.intro hown hb
        clear hown hb
        by_cases hjk : j < k
        · obtain ⟨gg, rfl⟩ : ∃ gg, gk = gg + 1 := ⟨gk - 1, by omega⟩
          have hjl : j < L.length := by have := HX.out.2.2.1; omega
          have e0 := (HB.out.2.cell (p := ⟨g, j, none⟩) hg).trans (HX.out.1 j hjl)
          have hsl := (HX.out.2.1 j hjl).below HB.out.2
          obtain ⟨xa, xc, hv, _⟩ := hsl.len
          rw [hv] at e0 hsl
          have hnw := sl_news hsl
          have hfl := flat_snoc L j hjl
          have hp2 := HX.out.2.2.2.2 (j + 1)
          have hn2 := HX.out.2.2.2.1
          have hll := congrArg List.length hfl
          rw [List.length_append] at hll
          have hsum : (L.take j).flatten.length + L[j].length ≤ 100000 := by omega
          generalize L[j] = R at *
          have HW : Hid _ := And.intro hnw hfl
          obtain ⟨P, hP⟩ : ∃ P, (L.take j).flatten = P := ⟨_, rfl⟩
          have HPP : Hid _ := hP
          rw [hP] at HB HW hsum ⊢
          have hrl := ec_len .i32 R
          have HRL : Hid _ := hrl
          clear hsl hnw hfl hv hP hll hp2 hn2 hrl
          go_wp2_with (first | (at_builtin; go_loud (refine wpList_app (P := Try.prog) wr rfl (.tmp 31) (.tmp 32) 24 rfl w.heap.size 64 i50 z50 2 8 Try.underlying24 hi50 hz0 hz1 hz3 hzc (by decide) (.slice ya P.length yc) P.length (P.flatMap (ec .i32)) rfl HB.out.1 xa R.length xc (R.flatMap (ec .i32)) rfl HRL.out HW.out.1 (ec_one .i32 R) (by unfold maxLen; omega) (by omega) HB.out.2.size ?_); intro v' w7 hown7 hg7 hat7; have H7 : Hid _ := And.intro hown7 (HB.out.2.grown hg7 HB.out.2.size (fun q hq => (row_base HB.out.1 q hq).1)); clear hown7 hg7 hat7))
          go_roundg gg
          case measure => omega
          case rel =>
            refine ⟨j + 1, by omega, by simp, ?_, H7.out.2⟩
            rw [HW.out.2]
            unfold Own
            rw [List.length_append, List.flatMap_append]
            exact H7.out.1
        · have hjk' : j = k := by omega
          subst hjk'
          have htk : (L.take j) = L := List.take_of_length_le (by have := HX.out.2.2.1; omega)
          rw [htk] at HB ⊢
          clear htk
          go_wp2_with fail
          go_ret
          exact ⟨_, rfl, HB.out.1, HB.out.2⟩
end Go.Proofs.Ythlkbijpphdblaa
