/- The program: Not. -/
import Derived.Test.YthlkbijpphdblaaP4
namespace Go.Proofs.Ythlkbijpphdblaa
open Go.RowKit
set_option linter.unusedVariables false

def NotQ (l : List Rg) (w : World) (e : Ending) (w' : World) : Prop := ∃ v s, e = .returned v ∧ NotS l s ∧ Own .i32 64 w' w.heap.size v s ∧ s.length ≤ l.length + 1 ∧ Below w.heap.size w w'
def Not1 (l : List Rg) (w : World) (k : Nat) (v3 v4 : Value) (wr : World) : Prop := ∃ (G : List Rg) (f : Int) (a : Option Addr) (c : Nat), v4 = .int .i32 f ∧ 0 ≤ f ∧ f ≤ 1114112 ∧ G ++ gapL f (l.drop k) = gapL 0 l ∧ G.length = k ∧ v3 = .slice a k c ∧ Own .i32 64 wr w.heap.size v3 G ∧ Below w.heap.size w wr
theorem gap_len : ∀ (l : List Rg) (f : Int), (gapL f l).length = l.length + 1
  | [], f => rfl
  | r :: l, f => by rw [gapL, List.length_cons, gap_len l, List.length_cons]
set_option maxHeartbeats 4000000 in
theorem not_p (v : Value) (l : List Rg) (w : World) (h : Sl .i32 w v l) (hc : Cn l) (hn : l.length ≤ 50000) : Calls Try.prog 26 #[v] w fun e w' => NotQ l w e w' := by
  obtain ⟨i50, z50, hi50, hz0, hzc, hz1, hz3⟩ := info_rgp
  obtain ⟨a, cap0, rfl, hcap, h⟩ := h
  have HX : Hid _ := And.intro h hc
  clear h hc
  go_enter Try.func26, Try.ntmps26
  go_wp2_with (first | (at_make; go_loud (refine wpList_make_own _ rfl (.const (.int .i64 0)) (.tmp 9) 23 rfl w.heap.size 64 i50 z50 2 Try.underlying23 hi50 hz0 hz1 .i64 .i64 ((l.length : Int) + 1) (l.length + 1) rfl rfl rfl (by rw [hz3]; omega) (by unfold maxLen; omega) (Nat.le_refl _) ?_); intro w1 hown1 hg1; have H1 : Hid _ := And.intro hown1 hg1; clear hown1 hg1))
  go_loopg [3, 4, 13] l.length (fun g v3 v4 v13 wr => ∃ k : Nat, k + g = l.length ∧ v13 = .int .i64 (k : Int) ∧ Not1 l w k v3 v4 wr)
  case atStart =>
    refine ⟨0, by omega, rfl, [], 0, _, _, rfl, by omega, by omega, rfl, rfl, rfl, H1.out.1, ?_⟩
    exact (Below.refl _ _).grown H1.out.2 (Nat.le_refl _) (fun j hj => by cases hj)
  case round =>
    obtain ⟨k, hk, rfl, G, f, ga, gc, rfl, hf0, hf1, hG, hGl, rfl, hown, hb⟩ := hrel
    have HB : Hid _ := And.intro hown (And.intro hb (And.intro hG hGl))
    clear hown hb H1 hG hGl
    by_cases hlt : k < l.length
    · obtain ⟨g, rfl⟩ : ∃ g, gk = g + 1 := ⟨gk - 1, by omega⟩
      rcases HX.out.1 with hx | ⟨b, off, rfl, hbl, hx⟩
      · rw [hx] at hlt; simp at hlt
      obtain ⟨c0, c1⟩ := hx k hlt
      have e0 := (HB.out.2.1.cell (p := ⟨b, off + k * 2, none⟩) hbl).trans c0
      have e1 := (HB.out.2.1.cell (p := ⟨b, off + k * 2 + 1, none⟩) hbl).trans c1
      have hok := HX.out.2.ok l[k] (by simp)
      have hgp := HB.out.2.2.1
      rw [List.drop_eq_getElem_cons hlt, gapL, List.append_cons] at hgp
      generalize l[k] = r at *
      obtain ⟨r0, r1⟩ := r
      dsimp only at *
      obtain ⟨o1, o2, o3⟩ := hok
      have o3' : r1 ≤ 1114111 := o3
      have HS : Hid _ := hgp
      clear c0 c1 hx hgp o3
      go_upto_region 6 with fail
      obtain ⟨W, hW⟩ : ∃ W, wr.alloc (.cells #[.int .i32 r0, .int .i32 r1] 64) = W := ⟨_, rfl⟩
      rw [hW]
      have hbW : Below wr.heap.size wr W := by rw [← hW]; exact (Below.refl _ _).alloc (Nat.le_refl _) _
      have hx : W.heap[wr.heap.size]? = some (.cells #[.int .i32 r0, .int .i32 r1] 64 (0, 0)) := by rw [← hW]; exact nw_heap _ _
      obtain ⟨⟨c0, c1⟩, _, _⟩ := blk2 hx
      have hWl := lt_of hx
      have HW : Hid _ := And.intro (HB.out.1.below hbW) (And.intro (HB.out.2.1.trans (hbW.mono HB.out.2.1.size)) hx)
      clear hW hbW hx e0 e1
      have hGl := HB.out.2.2.2
      have HGl : Hid _ := hGl
      clear hGl
      go_upto_region 7 with (first | (at_builtin; go_loud (refine wpList_put W .i32 64 23 i50 z50 8 Try.underlying23 hi50 hz0 hzc hz1 hz3 (by decide) (.tmp 17) (.tmp 23) rfl rfl w.heap.size (.slice ga k gc) G rfl HW.out.1 (f, r0 - 1) rfl (by rw [HGl.out]; omega) (by have := HW.out.2.1.size; omega) ?_); intro v' w7 hown7 hb7 hv7; have H7 : Hid _ := And.intro hown7 (And.intro hb7 hv7); clear hown7 hb7 hv7))
      obtain ⟨g7, c7, hv7⟩ := H7.out.2.2
      rw [List.length_append, List.length_singleton, HGl.out] at hv7
      subst hv7
      have hx7 := (H7.out.2.1.2.block wr.heap.size hWl (fun q => by have := (row_base HB.out.1 _ q).2; omega)).trans HW.out.2.2
      clear c0 c1
      obtain ⟨⟨c0, c1⟩, _, _⟩ := blk2 hx7
      clear hx7
      go_wp2_with fail
      go_roundg g
      case measure => omega
      case rel =>
        refine ⟨k + 1, by omega, by simp, G ++ [(f, r0 - 1)], r1 + 1, _, _, rfl, by omega, by omega, HS.out, by rw [List.length_append, List.length_singleton, HGl.out], rfl, H7.out.1, HW.out.2.1.trans H7.out.2.1.1⟩
    · have hkl : k = l.length := by omega
      subst hkl
      have hgp := HB.out.2.2.1
      rw [List.drop_length, gapL] at hgp
      have hgl := gap_len l 0
      have HGl : Hid _ := HB.out.2.2.2
      have HS : Hid _ := And.intro hgp hgl
      clear hgp hgl
      go_wp2_with (first | (at_builtin; go_loud (refine wpList_put wr .i32 64 23 i50 z50 8 Try.underlying23 hi50 hz0 hzc hz1 hz3 (by decide) (.tmp 29) (.tmp 32) rfl rfl w.heap.size (.slice ga l.length gc) G rfl HB.out.1 (f, 1114111) rfl (by rw [HGl.out]; omega) HB.out.2.1.size ?_); intro v' w7 hown7 hb7 hv7; have H7 : Hid _ := And.intro hown7 (And.intro hb7 hv7); clear hown7 hb7 hv7))
      have hown := H7.out.1
      have hlen : (G ++ [(f, 1114111)]).length = l.length + 1 := by rw [List.length_append, List.length_singleton, HGl.out]
      refine Calls.mono (of_p _ (G ++ [(f, 1114111)]) w7 hown.sl (by omega)) ?_
      rintro e w8 ⟨v8, s8, rfl, hof, hown8, hl8, hb8⟩
      rw [show G ++ [(f, 1114111)] = gapL 0 l from HS.out.1] at hof
      have hbw := HB.out.2.1.trans H7.out.2.1.1
      have H8 : Hid _ := And.intro (not_of HX.out.2 hof) (And.intro (hown8.mono hbw.size) (And.intro (hbw.trans (hb8.mono hbw.size)) (by omega : s8.length ≤ l.length + 1)))
      clear hof hown8 hb8 hl8 hlen hown hbw
      go_wp2_with fail
      go_ret
      exact ⟨_, s8, rfl, H8.out.1, H8.out.2.1, H8.out.2.2.2, H8.out.2.2.1⟩
end Go.Proofs.Ythlkbijpphdblaa
