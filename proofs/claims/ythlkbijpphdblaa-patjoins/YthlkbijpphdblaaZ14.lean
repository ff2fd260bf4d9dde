/- Joined: P4, P5. -/
import Derived.Test.YthlkbijpphdblaaP3
import Derived.OwnWalk
namespace Go.Proofs.Ythlkbijpphdblaa
open Go.RowKit
set_option linter.unusedVariables false

theorem Own.mono {k : IntKind} {e : TypeId} {w : World} {base base' : Nat} {v : Value} {l : List Rg} (h : Own k e w base v l) (hb : base' ≤ base) : Own k e w base' v l := by
  obtain ⟨h1, h2⟩ := h
  refine ⟨h1, ?_⟩
  rcases h2 with h | ⟨g, cap, cur, rfl, h3, h4⟩
  · exact .inl h
  · exact .inr ⟨g, cap, cur, rfl, by omega, h4⟩
theorem cut_snoc (l : List Rg) (r : Rg) : cut (l ++ [r]) = if (cl r).1 ≤ (cl r).2 then cut l ++ [cl r] else cut l := by
  unfold cut
  rw [List.map_append, List.filter_append]
  simp only [List.map_cons, List.map_nil, List.filter_cons, List.filter_nil, decide_eq_true_eq]
  split <;> simp
theorem wth_len (s : List Rg) (r : Rg) : (wthL s r).length ≤ s.length + 1 := by
  rcases snoc_cases s with rfl | ⟨t, q, rfl⟩
  · simp [wth_nil]
  · rw [wth_snoc]
    split <;> simp
theorem join_snoc (l : List Rg) (r : Rg) : joinL (l ++ [r]) = wthL (joinL l) r := by
  unfold joinL
  rw [List.foldl_append]
  rfl
theorem join_len (l : List Rg) : (joinL l).length ≤ l.length := by
  have key : ∀ (l s : List Rg), (l.foldl wthL s).length ≤ s.length + l.length := by
    intro l
    induction l with
    | nil => intro s; simp
    | cons r l ih =>
      intro s
      have := ih (wthL s r)
      have := wth_len s r
      simp only [List.foldl_cons, List.length_cons]
      omega
  have := key l []
  simpa [joinL] using this
/-- What Of answers. -/
def OfQ (l : List Rg) (w : World) (e : Ending) (w' : World) : Prop := ∃ v s, e = .returned v ∧ OfS l s ∧ Own .i32 64 w' w.heap.size v s ∧ s.length ≤ l.length ∧ Below w.heap.size w w'
/-- Where the first loop stands. -/
def Of1 (l : List Rg) (w : World) (k : Nat) (v3 : Value) (wr : World) : Prop := ∃ g cap, v3 = .slice (some ⟨g, 0, none⟩) (cut (l.take k)).length cap ∧ Own .i32 64 wr w.heap.size v3 (cut (l.take k)) ∧ Below w.heap.size w wr
set_option maxHeartbeats 4000000 in
theorem of_p (v : Value) (l : List Rg) (w : World) (h : Sl .i32 w v l) (hn : l.length ≤ 100000) : Calls Try.prog 41 #[v] w fun e w' => OfQ l w e w' := by
  obtain ⟨i50, z50, hi50, hz0, hzc, hz1, hz3⟩ := info_rgp
  obtain ⟨a, cap0, rfl, hcap, h⟩ := h
  have HX : Hid _ := h
  clear h
  go_enter Try.func41, Try.ntmps41
  go_wp2_with (first | (at_make; go_loud (refine wpList_make_own _ rfl (.const (.int .i64 0)) (.tmp 10) 23 rfl w.heap.size 64 i50 z50 2 Try.underlying23 hi50 hz0 hz1 .i64 .i64 (l.length : Int) l.length rfl rfl rfl (by rw [hz3]; omega) (by unfold maxLen; omega) (Nat.le_refl _) ?_); intro w1 hown1 hg1; have H1 : Hid _ := And.intro hown1 hg1; clear hown1 hg1))
  go_loopg [3, 14] l.length (fun g v3 v14 wr => ∃ k : Nat, k + g = l.length ∧ v14 = .int .i64 (k : Int) ∧ Of1 l w k v3 wr)
  case atStart =>
    refine ⟨0, by omega, rfl, w.heap.size, l.length, rfl, H1.out.1, ?_⟩
    exact (Below.refl _ _).grown H1.out.2 (Nat.le_refl _) (fun j hj => by cases hj)
  case round =>
    obtain ⟨k, hk, rfl, g3, cap3, rfl, hown, hb⟩ := hrel
    have HB : Hid _ := And.intro hown hb
    clear hown hb H1
    by_cases hlt : k < l.length
    · obtain ⟨g, rfl⟩ : ∃ g, gk = g + 1 := ⟨gk - 1, by omega⟩
      rcases HX.out with hx | ⟨b, off, rfl, hbl, hx⟩
      · rw [hx] at hlt; simp at hlt
      obtain ⟨c0, c1⟩ := hx k hlt
      have e0 := (HB.out.2.cell (p := ⟨b, off + k * 2, none⟩) hbl).trans c0
      have e1 := (HB.out.2.cell (p := ⟨b, off + k * 2 + 1, none⟩) hbl).trans c1
      have hcs := cut_snoc (l.take k) l[k]
      rw [← take_snoc hlt] at hcs
      have hcl := cut_len (l.take k)
      have htl : (l.take k).length ≤ k := List.length_take_le _ _
      generalize l[k] = r at *
      obtain ⟨r0, r1⟩ := r
      have HS : Hid (cut (l.take (k + 1)) = if max r0 0 ≤ min r1 1114111 then cut (l.take k) ++ [(max r0 0, min r1 1114111)] else cut (l.take k)) := hcs
      dsimp only at *
      clear c0 c1 hx hcs
      have hck : (cut (l.take k)).length ≤ 1000000 := by omega
      obtain ⟨C, hC⟩ : ∃ C, cut (l.take k) = C := ⟨_, rfl⟩
      rw [hC] at HB HS hck ⊢
      clear hC hcl htl
      go_upto_region 6 with fail
      obtain ⟨R0, hR0⟩ : ∃ R, max r0 0 = R := ⟨_, rfl⟩
      obtain ⟨R1, hR1⟩ : ∃ R, min r1 1114111 = R := ⟨_, rfl⟩
      rw [hR0, hR1] at HS ⊢
      obtain ⟨W, hW⟩ : ∃ W, wr.alloc (.cells #[.int .i32 R0, .int .i32 R1] 64) = W := ⟨_, rfl⟩
      rw [hW]
      have hbW : Below wr.heap.size wr W := by rw [← hW]; exact (Below.refl _ _).alloc (Nat.le_refl _) _
      have hx : W.heap[wr.heap.size]? = some (.cells #[.int .i32 R0, .int .i32 R1] 64 (0, 0)) := by rw [← hW]; exact nw_heap _ _
      obtain ⟨⟨c0, c1⟩, _, _⟩ := blk2 hx
      have HW : Hid _ := And.intro (HB.out.1.below hbW) (HB.out.2.trans (hbW.mono HB.out.2.size))
      clear hW hbW hx hR0 hR1 e0 e1 HB
      by_cases hle : R0 ≤ R1
      · have hS := HS.out
        rw [if_pos hle] at hS
        have HS : Hid _ := hS
        clear hS
        go_wp2_with (first | (at_builtin; go_loud (refine wpList_put W .i32 64 23 i50 z50 8 Try.underlying23 hi50 hz0 hzc hz1 hz3 (by decide) (.tmp 31) (.tmp 33) rfl rfl w.heap.size (.slice (some ⟨g3, 0, none⟩) C.length cap3) C rfl HW.out.1 (R0, R1) rfl hck (by have := HW.out.2.size; omega) ?_); intro v' w7 hown7 hb7 hv7; have H7 : Hid _ := And.intro hown7 (And.intro hb7 hv7); clear hown7 hb7 hv7))
        go_roundg g
        case measure => omega
        case rel =>
          obtain ⟨g7, c7, hv7⟩ := H7.out.2.2
          refine ⟨k + 1, by omega, by simp, g7, c7, ?_, ?_, HW.out.2.trans H7.out.2.1.1⟩
          · rw [HS.out]; exact hv7
          · rw [HS.out]; exact H7.out.1
      · have hS := HS.out
        rw [if_neg hle] at hS
        have HS : Hid _ := hS
        clear hS
        go_wp2_with fail
        go_roundg g
        case measure => omega
        case rel =>
          refine ⟨k + 1, by omega, by simp, g3, cap3, ?_, ?_, HW.out.2⟩
          · rw [HS.out]
          · rw [HS.out]; exact HW.out.1
    · have hkl : k = l.length := by omega
      subst hkl
      rw [List.take_length] at HB ⊢
      have hcl := cut_len l
      have hso := sort_ok (cut l) g3 cap3 w.heap.size wr HB.out.1 (by omega)
      have HSO : Hid _ := hso
      clear hso
      go_wp2_with fail
      refine Calls.mono HSO.out ?_
      rintro e w2 ⟨rfl, l', hp, hpw, hr2, hf2⟩
      have hll := hp.length_eq
      have hb2 : Below w.heap.size w w2 := HB.out.2.trans (hf2.toBelow HB.out.2.size (fun i hi q => by
        subst q
        have := (row_base HB.out.1 i rfl).1
        omega))
      have hsl : Sl .i32 w2 (.slice (some ⟨g3, 0, none⟩) (cut l).length cap3) l' := row_sl (base := w.heap.size) (e := 64) (by rw [hll]; exact hr2)
      have hof := of_sorted hp hpw
      obtain ⟨N, hN⟩ : ∃ N, (cut l).length = N := ⟨_, rfl⟩
      rw [hN] at hsl hll hcl ⊢
      have hjok := fun k => join_ok (l := l'.take k) (hpw.sublist (List.take_sublist _ _)) (fun r hr => cut_ok (hp.mem_iff.1 (List.mem_of_mem_take hr)))
      have H2 : Hid _ := And.intro hb2 (And.intro hsl (And.intro hof hjok))
      clear hp hpw hr2 hf2 hb2 hsl hof hjok HB HSO hN
      have hjl := join_len l'
      go_wp2_with fail
      go_loopg [6, 40] N (fun g v6 v40 wr => ∃ k : Nat, k + g = N ∧ v40 = .int .i64 (k : Int) ∧ Own .i32 64 wr w2.heap.size v6 (joinL (l'.take k)) ∧ Below w2.heap.size w2 wr)
      case atStart => exact ⟨0, by omega, rfl, Own.nil _ _ _ _, Below.refl _ _⟩
      case round =>
        obtain ⟨k, hk, rfl, hown, hb⟩ := hrel
        obtain ⟨va, vc, rfl⟩ := row_form hown
        have HB : Hid _ := And.intro hown hb
        clear hown hb
        by_cases hlt : k < N
        · obtain ⟨g, rfl⟩ : ∃ g, gk = g + 1 := ⟨gk - 1, by omega⟩
          obtain ⟨a2, cap2, ha2, _, hx⟩ := H2.out.2.1.below HB.out.2
          simp only [Value.slice.injEq] at ha2
          obtain ⟨rfl, hNl, rfl⟩ := ha2
          clear hNl
          have hN1 : N ≤ 100000 := by omega
          have hlt' : k < l'.length := by omega
          rcases hx with hx | ⟨b, off, hbo, hbl, hx⟩
          · rw [hx] at hlt'; simp at hlt'
          simp only [Option.some.injEq, Addr.mk.injEq, and_true] at hbo
          obtain ⟨rfl, rfl⟩ := hbo
          obtain ⟨e0, e1⟩ := hx k hlt'
          rw [Nat.zero_add] at e0 e1
          have hjs := join_snoc (l'.take k) l'[k]
          rw [← take_snoc hlt'] at hjs
          have hjl2 := join_len (l'.take k)
          have htl : (l'.take k).length ≤ k := List.length_take_le _ _
          generalize l'[k] = r at *
          have hwb : ∀ o, Below wr.heap.size wr (wr.alloc o) := fun o => (Below.refl _ _).alloc (Nat.le_refl _) o
          have hwp := fun o => with_p w2.heap.size (.slice va (joinL (l'.take k)).length vc) (joinL (l'.take k)) r (wr.alloc o) (HB.out.1.below (hwb o)) (H2.out.2.2.2 k).1 (by omega) (by have := HB.out.2.size; have := (hwb o).size; omega)
          obtain ⟨J, hJ⟩ : ∃ J, (joinL (l'.take k)).length = J := ⟨_, rfl⟩
          rw [hJ] at hwp ⊢
          have HWP : Hid _ := And.intro hwp (And.intro hjs hwb)
          obtain ⟨r0, r1⟩ := r
          clear hwp hjs hwb hx hJ hjl hjl2 htl hll hcl hlt'
          dsimp only at *
          go_wp2_with fail
          refine Calls.mono (HWP.out.1 _) ?_
          rintro e w3 ⟨v3, rfl, hown3, hb3⟩
          have H3 : Hid _ := And.intro hown3 hb3
          clear hown3 hb3
          go_wp2_with fail
          go_roundg g
          case measure => omega
          case rel =>
            refine ⟨k + 1, by omega, by simp, ?_, HB.out.2.trans (((HWP.out.2.2 _).mono HB.out.2.size).trans H3.out.2)⟩
            rw [HWP.out.2.1]
            exact H3.out.1
        · have hkl : k = N := by omega
          have htk : l'.take k = l' := List.take_of_length_le (by omega)
          rw [htk] at HB ⊢
          have hfin : (joinL l').length ≤ l.length := by omega
          obtain ⟨J, hJ⟩ : ∃ J, (joinL l').length = J := ⟨_, rfl⟩
          have HJ : Hid _ := And.intro hJ hfin
          rw [hJ] at HB ⊢
          clear hll hjl htk hfin hJ hk hlt hcl
          subst hkl
          go_wp2_with fail
          go_ret
          exact ⟨_, joinL l', rfl, H2.out.2.2.1, HB.out.1.mono H2.out.1.size, HJ.out.2, H2.out.1.trans (HB.out.2.mono H2.out.1.size)⟩
end Go.Proofs.Ythlkbijpphdblaa
namespace Go.Proofs.Ythlkbijpphdblaa
open Go.RowKit
set_option linter.unusedVariables false

def NotQ (l : List Rg) (w : World) (e : Ending) (w' : World) : Prop := ∃ v s, e = .returned v ∧ NotS l s ∧ Own .i32 64 w' w.heap.size v s ∧ s.length ≤ l.length + 1 ∧ Below w.heap.size w w'
def Not1 (l : List Rg) (w : World) (k : Nat) (v3 v4 : Value) (wr : World) : Prop := ∃ (G : List Rg) (f : Int) (a : Option Addr) (c : Nat), v4 = .int .i32 f ∧ 0 ≤ f ∧ f ≤ 1114112 ∧ G ++ gapL f (l.drop k) = gapL 0 l ∧ G.length = k ∧ v3 = .slice a k c ∧ Own .i32 64 wr w.heap.size v3 G ∧ Below w.heap.size w wr
theorem gap_len : ∀ (l : List Rg) (f : Int), (gapL f l).length = l.length + 1
  | [], f => rfl
  | r :: l, f => by rw [gapL, List.length_cons, gap_len l, List.length_cons]
set_option maxHeartbeats 4000000 in
theorem not_p (v : Value) (l : List Rg) (w : World) (h : Sl .i32 w v l) (hc : Cn l) (hn : l.length ≤ 50000) : Calls Try.prog 26 #[v] w fun e w' => NotQ l w e w' := by
  obtain ⟨i50, z50, hi50, hz0, hzc, hz1, hz3⟩ := info_rgp
  obtain ⟨a, cap0, rfl, hcap, h⟩ := h
  have HX : Hid _ := And.intro h hc
  clear h hc
  go_enter Try.func26, Try.ntmps26
  go_wp2_with (first | (at_make; go_loud (refine wpList_make_own _ rfl (.const (.int .i64 0)) (.tmp 9) 23 rfl w.heap.size 64 i50 z50 2 Try.underlying23 hi50 hz0 hz1 .i64 .i64 ((l.length : Int) + 1) (l.length + 1) rfl rfl rfl (by rw [hz3]; omega) (by unfold maxLen; omega) (Nat.le_refl _) ?_); intro w1 hown1 hg1; have H1 : Hid _ := And.intro hown1 hg1; clear hown1 hg1))
  go_loopg [3, 4, 13] l.length (fun g v3 v4 v13 wr => ∃ k : Nat, k + g = l.length ∧ v13 = .int .i64 (k : Int) ∧ Not1 l w k v3 v4 wr)
  case atStart =>
    refine ⟨0, by omega, rfl, [], 0, _, _, rfl, by omega, by omega, rfl, rfl, rfl, H1.out.1, ?_⟩
    exact (Below.refl _ _).grown H1.out.2 (Nat.le_refl _) (fun j hj => by cases hj)
  case round =>
    obtain ⟨k, hk, rfl, G, f, ga, gc, rfl, hf0, hf1, hG, hGl, rfl, hown, hb⟩ := hrel
    have HB : Hid _ := And.intro hown (And.intro hb (And.intro hG hGl))
    clear hown hb H1 hG hGl
    by_cases hlt : k < l.length
    · obtain ⟨g, rfl⟩ : ∃ g, gk = g + 1 := ⟨gk - 1, by omega⟩
      rcases HX.out.1 with hx | ⟨b, off, rfl, hbl, hx⟩
      · rw [hx] at hlt; simp at hlt
      obtain ⟨c0, c1⟩ := hx k hlt
      have e0 := (HB.out.2.1.cell (p := ⟨b, off + k * 2, none⟩) hbl).trans c0
      have e1 := (HB.out.2.1.cell (p := ⟨b, off + k * 2 + 1, none⟩) hbl).trans c1
      have hok := HX.out.2.ok l[k] (by simp)
      have hgp := HB.out.2.2.1
      rw [List.drop_eq_getElem_cons hlt, gapL, List.append_cons] at hgp
      generalize l[k] = r at *
      obtain ⟨r0, r1⟩ := r
      dsimp only at *
      obtain ⟨o1, o2, o3⟩ := hok
      have o3' : r1 ≤ 1114111 := o3
      have HS : Hid _ := hgp
      clear c0 c1 hx hgp o3
      go_upto_region 6 with fail
      obtain ⟨W, hW⟩ : ∃ W, wr.alloc (.cells #[.int .i32 r0, .int .i32 r1] 64) = W := ⟨_, rfl⟩
      rw [hW]
      have hbW : Below wr.heap.size wr W := by rw [← hW]; exact (Below.refl _ _).alloc (Nat.le_refl _) _
      have hx : W.heap[wr.heap.size]? = some (.cells #[.int .i32 r0, .int .i32 r1] 64 (0, 0)) := by rw [← hW]; exact nw_heap _ _
      obtain ⟨⟨c0, c1⟩, _, _⟩ := blk2 hx
      have hWl := lt_of hx
      have HW : Hid _ := And.intro (HB.out.1.below hbW) (And.intro (HB.out.2.1.trans (hbW.mono HB.out.2.1.size)) hx)
      clear hW hbW hx e0 e1
      have hGl := HB.out.2.2.2
      have HGl : Hid _ := hGl
      clear hGl
      go_upto_region 7 with (first | (at_builtin; go_loud (refine wpList_put W .i32 64 23 i50 z50 8 Try.underlying23 hi50 hz0 hzc hz1 hz3 (by decide) (.tmp 17) (.tmp 23) rfl rfl w.heap.size (.slice ga k gc) G rfl HW.out.1 (f, r0 - 1) rfl (by rw [HGl.out]; omega) (by have := HW.out.2.1.size; omega) ?_); intro v' w7 hown7 hb7 hv7; have H7 : Hid _ := And.intro hown7 (And.intro hb7 hv7); clear hown7 hb7 hv7))
      obtain ⟨g7, c7, hv7⟩ := H7.out.2.2
      rw [List.length_append, List.length_singleton, HGl.out] at hv7
      subst hv7
      have hx7 := (H7.out.2.1.2.block wr.heap.size hWl (fun q => by have := (row_base HB.out.1 _ q).2; omega)).trans HW.out.2.2
      clear c0 c1
      obtain ⟨⟨c0, c1⟩, _, _⟩ := blk2 hx7
      clear hx7
      go_wp2_with fail
      go_roundg g
      case measure => omega
      case rel =>
        refine ⟨k + 1, by omega, by simp, G ++ [(f, r0 - 1)], r1 + 1, _, _, rfl, by omega, by omega, HS.out, by rw [List.length_append, List.length_singleton, HGl.out], rfl, H7.out.1, HW.out.2.1.trans H7.out.2.1.1⟩
    · have hkl : k = l.length := by omega
      subst hkl
      have hgp := HB.out.2.2.1
      rw [List.drop_length, gapL] at hgp
      have hgl := gap_len l 0
      have HGl : Hid _ := HB.out.2.2.2
      have HS : Hid _ := And.intro hgp hgl
      clear hgp hgl
      go_wp2_with (first | (at_builtin; go_loud (refine wpList_put wr .i32 64 23 i50 z50 8 Try.underlying23 hi50 hz0 hzc hz1 hz3 (by decide) (.tmp 29) (.tmp 32) rfl rfl w.heap.size (.slice ga l.length gc) G rfl HB.out.1 (f, 1114111) rfl (by rw [HGl.out]; omega) HB.out.2.1.size ?_); intro v' w7 hown7 hb7 hv7; have H7 : Hid _ := And.intro hown7 (And.intro hb7 hv7); clear hown7 hb7 hv7))
      have hown := H7.out.1
      have hlen : (G ++ [(f, 1114111)]).length = l.length + 1 := by rw [List.length_append, List.length_singleton, HGl.out]
      refine Calls.mono (of_p _ (G ++ [(f, 1114111)]) w7 hown.sl (by omega)) ?_
      rintro e w8 ⟨v8, s8, rfl, hof, hown8, hl8, hb8⟩
      rw [show G ++ [(f, 1114111)] = gapL 0 l from HS.out.1] at hof
      have hbw := HB.out.2.1.trans H7.out.2.1.1
      have H8 : Hid _ := And.intro (not_of HX.out.2 hof) (And.intro (hown8.mono hbw.size) (And.intro (hbw.trans (hb8.mono hbw.size)) (by omega : s8.length ≤ l.length + 1)))
      clear hof hown8 hb8 hl8 hlen hown hbw
      go_wp2_with fail
      go_ret
      exact ⟨_, s8, rfl, H8.out.1, H8.out.2.1, H8.out.2.2.2, H8.out.2.2.1⟩
end Go.Proofs.Ythlkbijpphdblaa
