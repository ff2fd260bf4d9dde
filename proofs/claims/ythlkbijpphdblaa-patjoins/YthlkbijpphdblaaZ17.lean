/- Joined: P8, P9. -/
import Derived.Test.YthlkbijpphdblaaP7
import Derived.Test.YthlkbijpphdblaaP2
namespace Go.Proofs.Ythlkbijpphdblaa
open Go.RowKit
set_option linter.unusedVariables false

theorem addr_off (g off j : Nat) : Addr.add ⟨g, off, none⟩ j = ⟨g, off + j, none⟩ := by unfold Addr.add; split <;> simp_all
theorem sl_news {k : IntKind} {w : World} {a : Option Addr} {c n : Nat} {l : List Rg} (h : Sl k w (.slice a n c) l) : n = 0 ∨ ∃ ad, a = some ad ∧ ∀ j u, (l.flatMap (ec k))[j]? = some u → w.cell? (ad.add j) = some u := by
  obtain ⟨a', c', e, _, h⟩ := h
  simp only [Value.slice.injEq] at e
  obtain ⟨rfl, rfl, rfl⟩ := e
  rcases h with h | ⟨g, off, rfl, hg, h⟩
  · exact .inl (by rw [h]; rfl)
  · refine .inr ⟨_, rfl, fun j u hu => ?_⟩
    rw [addr_off]
    have hj : j < l.length * 2 := by
      rw [← ec_len k l]
      exact (List.getElem?_eq_some_iff.1 hu).1
    obtain ⟨q, hq⟩ : ∃ q, j / 2 = q := ⟨_, rfl⟩
    have hql : q < l.length := by omega
    have hh := h q hql
    have he := ec_get k l q hql
    rcases Nat.mod_two_eq_zero_or_one j with e | e
    · have e2 : j = q * 2 := by omega
      rw [e2] at hu ⊢
      rw [he.1] at hu
      obtain rfl := Option.some.inj hu
      exact hh.1
    · have e2 : j = q * 2 + 1 := by omega
      rw [e2] at hu ⊢
      rw [he.2] at hu
      obtain rfl := Option.some.inj hu
      rw [← Nat.add_assoc]
      exact hh.2
theorem flat_snoc {α : Type} (L : List (List α)) (k : Nat) (h : k < L.length) : (L.take (k + 1)).flatten = (L.take k).flatten ++ L[k] := by
  rw [take_snoc h, List.flatten_append]
  simp
def CatQ (l : List Rg) (w : World) (e : Ending) (w' : World) : Prop := ∃ v, e = .returned v ∧ Own .i32 64 w' w.heap.size v l ∧ Below w.heap.size w w'
/-- Where the second loop stands. -/
def Cat2 (l : List Rg) (w : World) (v : Value) (wr : World) : Prop := Own .i32 64 wr w.heap.size v l ∧ Below w.heap.size w wr
set_option maxRecDepth 8000 in
set_option maxHeartbeats 4000000 in
theorem concat_p (g m : Nat) (vs : Nat → Value) (L : List (List Rg)) (w : World) (hg : g < w.heap.size) (hc : ∀ j, j < L.length → w.cell? ⟨g, j, none⟩ = some (vs j)) (hs : ∀ j (hj : j < L.length), Sl .i32 w (vs j) L[j]) (hm : L.length = m) (hm2 : m ≤ 100) (hn : L.flatten.length ≤ 100000) :
    Calls Try.prog 44 #[.slice (some ⟨g, 0, none⟩) m m] w fun e w' => CatQ L.flatten w e w' := by
  obtain ⟨i50, z50, hi50, hz0, hzc, hz1, hz3⟩ := info_rgp
  have hpre : ∀ k, (L.take k).flatten.length ≤ L.flatten.length := fun k => by
    conv => rhs; rw [← List.take_append_drop k L]
    rw [List.flatten_append, List.length_append]
    omega
  have HX : Hid _ := And.intro hc (And.intro hs (And.intro hm (And.intro hn hpre)))
  clear hc hs hm hn hpre
  go_enter Try.func44, Try.ntmps44
  go_wp2_with fail
  go_loopg [3, 11] m (fun g' v3 v11 wr => ∃ k : Nat, k + g' = m ∧ v11 = .int .i64 (k : Int) ∧ v3 = .int .i64 ((L.take k).flatten.length : Nat) ∧ wr = w)
  case atStart => exact ⟨0, by omega, rfl, rfl, rfl⟩
  case round =>
    obtain ⟨k, hk, rfl, rfl, hw⟩ := hrel
    have hw' := hw.symm
    clear hw
    subst hw'
    have hp := HX.out.2.2.2.2 k
    have hl := HX.out.2.2.2.1
    by_cases hlt : k < m
    · obtain ⟨gg, rfl⟩ : ∃ gg, gk = gg + 1 := ⟨gk - 1, by omega⟩
      have hkl : k < L.length := by have := HX.out.2.2.1; omega
      have e0 := HX.out.1 k hkl
      obtain ⟨xa, xc, hv, _⟩ := (HX.out.2.1 k hkl).len
      rw [hv] at e0
      have hfs := congrArg List.length (flat_snoc L k hkl)
      rw [List.length_append] at hfs
      have hp2 := HX.out.2.2.2.2 (k + 1)
      generalize hS : (L.take k).flatten.length = S at *
      generalize hK : L[k].length = K at *
      generalize L.flatten.length = N at *
      have HS : Hid _ := hfs
      have hb1 : S + K ≤ 100000 := by omega
      clear hfs hp2 hS hK hv
      go_wp2_with fail
      go_roundg gg
      case measure => omega
      case rel => exact ⟨k + 1, by omega, by simp, by rw [HS.out, Int.natCast_add], rfl⟩
    · have hkl : k = m := by omega
      subst hkl
      generalize hS : (L.take k).flatten.length = S at *
      generalize hNN : L.flatten.length = N at *
      have q1 := grow_p S w (by omega)
      have HQ : Hid _ := q1
      clear q1 hS hNN
      go_wp2_with fail
      refine Calls.mono HQ.out ?_
      rintro e w1 ⟨v1, rfl, hown1, hb1⟩
      have H1 : Hid _ := And.intro hown1 hb1
      clear hown1 hb1
      go_wp2_with fail
      go_loopg [6, 27] k (fun g' v6 v27 wr => ∃ j : Nat, j + g' = k ∧ v27 = .int .i64 (j : Int) ∧ Cat2 (L.take j).flatten w v6 wr)
      case atStart => exact ⟨0, by omega, rfl, H1.out.1, H1.out.2⟩
      case round =>
        obtain ⟨j, hj, rfl, hown, hb⟩ := hrel
        obtain ⟨ya, yc, rfl⟩ := row_form hown
        have HB : Hid _ := And.intro hown hb
        clear hown hb
        by_cases hjk : j < k
        · obtain ⟨gg, rfl⟩ : ∃ gg, gk = gg + 1 := ⟨gk - 1, by omega⟩
          have hjl : j < L.length := by have := HX.out.2.2.1; omega
          have e0 := (HB.out.2.cell (p := ⟨g, j, none⟩) hg).trans (HX.out.1 j hjl)
          have hsl := (HX.out.2.1 j hjl).below HB.out.2
          obtain ⟨xa, xc, hv, _⟩ := hsl.len
          rw [hv] at e0 hsl
          have hnw := sl_news hsl
          have hfl := flat_snoc L j hjl
          have hp2 := HX.out.2.2.2.2 (j + 1)
          have hn2 := HX.out.2.2.2.1
          have hll := congrArg List.length hfl
          rw [List.length_append] at hll
          have hsum : (L.take j).flatten.length + L[j].length ≤ 100000 := by omega
          generalize L[j] = R at *
          have HW : Hid _ := And.intro hnw hfl
          obtain ⟨P, hP⟩ : ∃ P, (L.take j).flatten = P := ⟨_, rfl⟩
          have HPP : Hid _ := hP
          rw [hP] at HB HW hsum ⊢
          have hrl := ec_len .i32 R
          have HRL : Hid _ := hrl
          clear hsl hnw hfl hv hP hll hp2 hn2 hrl
          go_wp2_with (first | (at_builtin; go_loud (refine wpList_app (P := Try.prog) wr rfl (.tmp 31) (.tmp 32) 24 rfl w.heap.size 64 i50 z50 2 8 Try.underlying24 hi50 hz0 hz1 hz3 hzc (by decide) (.slice ya P.length yc) P.length (P.flatMap (ec .i32)) rfl HB.out.1 xa R.length xc (R.flatMap (ec .i32)) rfl HRL.out HW.out.1 (ec_one .i32 R) (by unfold maxLen; omega) (by omega) HB.out.2.size ?_); intro v' w7 hown7 hg7 hat7; have H7 : Hid _ := And.intro hown7 (HB.out.2.grown hg7 HB.out.2.size (fun q hq => (row_base HB.out.1 q hq).1)); clear hown7 hg7 hat7))
          go_roundg gg
          case measure => omega
          case rel =>
            refine ⟨j + 1, by omega, by simp, ?_, H7.out.2⟩
            rw [HW.out.2]
            unfold Own
            rw [List.length_append, List.flatMap_append]
            exact H7.out.1
        · have hjk' : j = k := by omega
          subst hjk'
          have htk : (L.take j) = L := List.take_of_length_le (by have := HX.out.2.2.1; omega)
          rw [htk] at HB ⊢
          clear htk
          go_wp2_with fail
          go_ret
          exact ⟨_, rfl, HB.out.1, HB.out.2⟩
end Go.Proofs.Ythlkbijpphdblaa
namespace Go.Proofs.Ythlkbijpphdblaa
open Go.RowKit
set_option linter.unusedVariables false

theorem box2' (w : World) (A B : Obj) : ((w.alloc A).alloc B).heap[w.heap.size]? = some A ∧ ((w.alloc A).alloc B).heap[w.heap.size + 1]? = some B ∧ Below w.heap.size w ((w.alloc A).alloc B) := by
  have hA := nw_heap w A
  have hB := nw_heap (w.alloc A) B
  have b1 : Below (w.alloc A).heap.size (w.alloc A) ((w.alloc A).alloc B) := (Below.refl _ _).alloc (Nat.le_refl _) _
  rw [sza] at hB
  exact ⟨(b1.block _ (by simp)).trans hA, hB, ((Below.refl _ _).alloc (Nat.le_refl _) _).alloc (by simp) _⟩
/-- A slice that is laid at once. -/
theorem sl_lit {k : IntKind} {w : World} {g : Nat} {e : TypeId} {l : List Rg} {cs : Array Value} (h : w.heap[g]? = some (.cells cs e (0, 0))) (hc : cs = (l.flatMap (ec k)).toArray) : Sl k w (.slice (some ⟨g, 0, none⟩) l.length l.length) l := by
  refine ⟨_, _, rfl, Nat.le_refl _, .inr ⟨g, 0, rfl, lt_of h, fun j hj => ?_⟩⟩
  have hh : ∀ (t : Nat) u, (l.flatMap (ec k))[t]? = some u → w.cell? ⟨g, t, none⟩ = some u := fun t u ht => by
    simp [World.cell?, h, hc, ht]
  rw [Nat.zero_add]
  exact ⟨hh _ _ (ec_get k l j hj).1, hh _ _ (ec_get k l j hj).2⟩
def UniQ (a b : List Rg) (w : World) (e : Ending) (w' : World) : Prop := ∃ v s, e = .returned v ∧ OfS (a ++ b) s ∧ Own .i32 64 w' w.heap.size v s ∧ s.length ≤ a.length + b.length ∧ Below w.heap.size w w'
set_option maxHeartbeats 1000000 in
theorem union_p (va vb : Value) (a b : List Rg) (w : World) (ha : Sl .i32 w va a) (hb : Sl .i32 w vb b) (hn : a.length + b.length ≤ 100000) : Calls Try.prog 76 #[va, vb] w fun e w' => UniQ a b w e w' := by
  have HX : Hid _ := And.intro ha hb
  obtain ⟨x, c, rfl, _⟩ := ha.len
  obtain ⟨y, d, rfl, _⟩ := hb.len
  clear ha hb
  have hbW : Below w.heap.size w (w.alloc (.cells #[.slice x a.length c, .slice y b.length d] 24)) := (Below.refl _ _).alloc (Nat.le_refl _) _
  have hx := nw_heap w (.cells #[.slice x a.length c, .slice y b.length d] 24)
  have hcat := concat_p w.heap.size 2 (fun j => if j = 0 then .slice x a.length c else .slice y b.length d) [a, b] (w.alloc (.cells #[.slice x a.length c, .slice y b.length d] 24)) (by rw [sza]; omega) (fun j hj => by
    have : j = 0 ∨ j = 1 := by simp at hj; omega
    rcases this with rfl | rfl
    · exact (blk2 hx).1.1
    · exact (blk2 hx).1.2) (fun j hj => by
    have : j = 0 ∨ j = 1 := by simp at hj; omega
    rcases this with rfl | rfl
    · exact HX.out.1.below hbW
    · exact HX.out.2.below hbW) rfl (by omega) (by simpa using hn)
  have hfl : [a, b].flatten = a ++ b := by simp
  rw [hfl] at hcat
  have HC : Hid _ := And.intro hcat hbW
  clear hcat hbW hx hfl
  go_enter Try.func76, Try.ntmps76
  go_wp2_with fail
  refine Calls.mono HC.out.1 ?_
  rintro e w1 ⟨v1, rfl, hown1, hb1⟩
  have hbb := HC.out.2.trans (hb1.mono HC.out.2.size)
  have H1 : Hid _ := And.intro hown1 hbb
  clear hown1 hb1 hbb
  go_wp2_with fail
  refine Calls.mono (of_p _ (a ++ b) w1 H1.out.1.sl (by rw [List.length_append]; omega)) ?_
  rintro e w2 ⟨v2, s2, rfl, hof, hown2, hl2, hb2⟩
  rw [List.length_append] at hl2
  have H2 : Hid _ := And.intro hof (And.intro (hown2.mono H1.out.2.size) (And.intro (H1.out.2.trans (hb2.mono H1.out.2.size)) hl2))
  clear hof hown2 hb2 hl2
  go_wp2_with fail
  go_ret
  exact ⟨_, s2, rfl, H2.out.1, H2.out.2.1, H2.out.2.2.2, H2.out.2.2.1⟩
theorem ofs_of {l t s : List Rg} (h : OfS l s) (ct : Cn t) (hm : ∀ x, memB t x = (memB l x && decide (0 ≤ x ∧ x ≤ MX))) : s = t := cn_ext s t h.cn ct (fun x => by rw [h.mem, hm])
/-- A set that is told, and whether there is one. -/
def EscQ (t : List Rg) (w : World) (e : Ending) (w' : World) : Prop := ∃ a c, e = .returned (.tuple #[.slice a t.length c, .bool true]) ∧ Own .i32 64 w' w.heap.size (.slice a t.length c) t ∧ Below w.heap.size w w'
theorem own_form {k : IntKind} {e : TypeId} {w : World} {base : Nat} {v : Value} {l : List Rg} (h : Own k e w base v l) : ∃ a c, v = .slice a l.length c := row_form h
set_option maxHeartbeats 1000000 in
theorem cat_nd (w : World) : Calls Try.prog 24 #[.string ⟨#[78, 100]⟩] w fun e w' => EscQ [(48, 57)] w e w' := by
  have hb0 : Below w.heap.size w (w.alloc (.cells #[.int .i32 48, .int .i32 57] 64)) := (Below.refl _ _).alloc (Nat.le_refl _) _
  have hsl : Sl .i32 (w.alloc (.cells #[.int .i32 48, .int .i32 57] 64)) (.slice (some ⟨w.heap.size, 0, none⟩) 1 1) [(48, 57)] := sl_lit (l := [(48, 57)]) (nw_heap _ _) rfl
  have q1 := of_p _ _ _ hsl (by simp)
  have HQ : Hid _ := And.intro q1 hb0
  clear q1 hb0 hsl
  go_enter Try.func24, Try.ntmps24
  go_wp2_with fail
  refine Calls.mono HQ.out.1 ?_
  rintro e w2 ⟨v2, s2, rfl, hof, hown2, hl2, hb2⟩
  have hs : s2 = [(48, 57)] := ofs_of hof (Cn.one (by decide)) (fun x => by
    rw [Bool.eq_iff_iff]
    simp only [mem_cons, mem_nil, Bool.and_eq_true, Bool.or_eq_true, inR_iff, decide_eq_true_eq, Bool.false_eq_true, or_false]
    have : MX = 1114111 := rfl
    omega)
  subst hs
  obtain ⟨a, c, rfl⟩ := own_form hown2
  have H2 : Hid _ := And.intro (hown2.mono HQ.out.2.size) (HQ.out.2.trans (hb2.mono HQ.out.2.size))
  clear hof hown2 hb2 hl2
  go_wp2_with fail
  go_ret2
  exact ⟨a, c, rfl, H2.out.1, H2.out.2⟩
theorem esc_d (w : World) : Calls Try.prog 11 #[.int .u8 100] w fun e w' => EscQ [(48, 57)] w e w' := by
  have HQ : Hid _ := And.intro (cat_nd w) trivial
  go_enter Try.func11, Try.ntmps11
  go_wp2_with fail
  refine Calls.mono HQ.out.1 ?_
  rintro e w2 ⟨a, c, rfl, hown2, hb2⟩
  have H2 : Hid _ := And.intro hown2 hb2
  clear hown2 hb2
  go_wp2_with fail
  go_ret2
  exact ⟨a, c, rfl, H2.out.1, H2.out.2⟩
theorem esc_q (w : World) : Calls Try.prog 11 #[.int .u8 113] w fun e w' => e = .returned (.tuple #[.slice none 0 0, .bool false]) ∧ w' = w := by
  go_enter Try.func11, Try.ntmps11
  go_wp2_with fail
  go_ret2
  exact ⟨rfl, rfl⟩
end Go.Proofs.Ythlkbijpphdblaa
