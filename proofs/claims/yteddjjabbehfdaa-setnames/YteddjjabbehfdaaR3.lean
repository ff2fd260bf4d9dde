/- The second telling: Has, Not. -/
import Derived.Test.YteddjjabbehfdaaR2
namespace Go.Proofs.Yteddjjabbehfdaa
open Go.RowKit
set_option linter.unusedVariables false

set_option maxHeartbeats 2000000 in
theorem rhas_r (v : Value) (l : List Rg) (x : Int) (w : World) (h : Sl .i64 w v l) (hn : l.length ≤ 1000000) : Calls Try.prog 19 #[sV v, .int .i64 x] w fun e w' => e = .returned (.bool (memB l x)) ∧ Below w.heap.size w w' := by
  obtain ⟨a, cap, rfl, hcap⟩ := h.len
  have hx := nw_heap w (.cells #[.slice a l.length cap] 28)
  have hbW : Below w.heap.size w (w.alloc (.cells #[.slice a l.length cap] 28)) := (Below.refl _ _).alloc (Nat.le_refl _) _
  obtain ⟨T, hT⟩ : ∃ T, memB l x = T := ⟨_, rfl⟩
  rw [hT]
  have HT : Hid _ := hT
  clear hT
  go_enter Try.func19, Try.ntmps19
  go_upto_region 1 with fail
  obtain ⟨W, hW⟩ : ∃ W, w.alloc (.cells #[.slice a l.length cap] 28) = W := ⟨_, rfl⟩
  rw [hW] at hx hbW ⊢
  have HX : Hid _ := And.intro (h.below hbW) (And.intro hx hbW)
  clear h hx hbW hW
  go_wp2_with fail
  go_loopg [5] l.length (fun g v5 wr => ∃ k : Nat, k + g = l.length ∧ v5 = .int .i64 (k : Int) ∧ memB (l.take k) x = false ∧ Below W.heap.size W wr)
  case atStart => exact ⟨0, by omega, rfl, rfl, Below.refl _ _⟩
  case round =>
    obtain ⟨k, hk, rfl, hm, hb⟩ := hrel
    have y1 := (hb.block _ (lt_of HX.out.2.1)).trans HX.out.2.1
    obtain ⟨c0, _⟩ := blk1 y1
    have HB : Hid _ := And.intro hb hm
    clear hb y1 hm
    by_cases hlt : k < l.length
    · obtain ⟨g, rfl⟩ : ∃ g, gk = g + 1 := ⟨gk - 1, by omega⟩
      obtain ⟨a', c', e, _, hx⟩ := HX.out.1
      simp only [Value.slice.injEq] at e
      obtain ⟨rfl, hdd, rfl⟩ := e
      clear hdd
      rcases hx with hx | ⟨b, off, rfl, hbl, hx⟩
      · rw [hx] at hlt; simp at hlt
      obtain ⟨q0, q1⟩ := hx k hlt
      have e0 := (HB.out.1.cell (p := ⟨b, off + k * 2, none⟩) hbl).trans q0
      have e1 := (HB.out.1.cell (p := ⟨b, off + k * 2 + 1, none⟩) hbl).trans q1
      have hst : memB (l.take (k + 1)) x = inR l[k] x := by rw [take_snoc hlt, mem_app, HB.out.2, mem_cons, mem_nil]; simp
      have hyes : inR l[k] x = true → T = true := fun q => by
        rw [← HT.out]
        exact mem_iff.2 ⟨l[k], by simp, inR_iff.1 q⟩
      generalize l[k] = r at *
      obtain ⟨r0, r1⟩ := r
      have hi : inR (r0, r1) x = (decide (r0 ≤ x) && decide (x ≤ r1)) := rfl
      rw [hi] at hst hyes
      dsimp only at *
      clear q0 q1 hx hi
      by_cases t0 : r0 ≤ x
      · have d0 : decide (r0 ≤ x) = true := by simpa using t0
        by_cases t1 : x ≤ r1
        · have d1 : decide (x ≤ r1) = true := by simpa using t1
          have hT := hyes (by rw [d0, d1]; rfl)
          subst hT
          clear hst hyes
          go_wp2_with fail
          go_ret
          exact ⟨rfl, HX.out.2.2.trans (HB.out.1.mono HX.out.2.2.size)⟩
        · have d1 : decide (x ≤ r1) = false := by simpa using t1
          rw [d0, d1] at hst
          have HS : Hid _ := hst
          clear hst hyes
          go_wp2_with fail
          go_roundg g
          case measure => omega
          case rel => exact ⟨k + 1, by omega, by simp, HS.out, HB.out.1⟩
      · have d0 : decide (r0 ≤ x) = false := by simpa using t0
        rw [d0] at hst
        have HS : Hid _ := hst
        clear hst hyes
        go_wp2_with fail
        go_roundg g
        case measure => omega
        case rel => exact ⟨k + 1, by omega, by simp, HS.out, HB.out.1⟩
    · have hkl : k = l.length := by omega
      subst hkl
      have hT : T = false := by
        rw [← HT.out]
        have := HB.out.2
        rw [List.take_length] at this
        exact this
      subst hT
      go_wp2_with fail
      go_ret
      exact ⟨rfl, HX.out.2.2.trans (HB.out.1.mono HX.out.2.2.size)⟩
/-- What the second telling's Not tells. -/
def RsQ (l : List Rg) (w : World) (e : Ending) (w' : World) : Prop := ∃ a c, e = .returned (sV (.slice a l.length c)) ∧ Own .i64 58 w' w.heap.size (.slice a l.length c) l ∧ Below w.heap.size w w'
theorem notR_len : ∀ (l : List Rg) (f : Int), (notR f l).length ≤ l.length + 1
  | [], f => by rw [notR]; split <;> simp
  | r :: l, f => by
    have := notR_len l (r.2 + 1)
    rw [notR]
    split
    · simp only [List.length_cons]; omega
    · simp only [List.length_cons]; omega
/-- A result's place beside a row: the row is kept. -/
theorem own_set {k : IntKind} {e : TypeId} {w : World} {base X : Nat} {v : Value} {l : List Rg} {cs : Array Value} {t : TypeId} (h : Own k e w base v l) (hx : w.heap[X]? = some (.cells cs t (0, 0))) (hne : e ≠ t) (i : Nat) (u : Value) : Own k e (w.setCell ⟨X, i, none⟩ u) base v l := by
  refine row_fro h (O := fun j => j = X) ((Fro.refl (fun j => j = X) w).set (.inl rfl) _) (fun j hj q => ?_)
  subst q
  obtain ⟨_, h2⟩ := h
  rcases h2 with ⟨rfl, _⟩ | ⟨g, cap, cur, rfl, _, h4, _⟩
  · simp [Value.ownBlock] at hj
  · simp [Value.ownBlock] at hj
    subst hj
    rw [hx] at h4
    simp at h4
    exact hne h4.2.symm
def Nr1 (l : List Rg) (w W : World) (k : Nat) (v3 v4 : Value) (wr : World) : Prop := ∃ (G : List Rg) (f : Int), v4 = .int .i64 f ∧ 0 ≤ f ∧ f ≤ 1114112 ∧ G ++ notR f (l.drop k) = notR 0 l ∧ G.length ≤ k ∧ Own .i64 58 wr W.heap.size v3 G ∧ Below W.heap.size W wr
set_option maxHeartbeats 4000000 in
theorem rnot_r (v : Value) (l : List Rg) (w : World) (h : Sl .i64 w v l) (hc : Cn l) (hn : l.length ≤ 100000) : Calls Try.prog 21 #[sV v] w fun e w' => RsQ (notR 0 l) w e w' := by
  obtain ⟨i58, z58, hi58, hz0, hzc, hz1, hz3⟩ := info_rrp
  obtain ⟨a, cap, rfl, hcap⟩ := h.len
  obtain ⟨x1, x2, hbW⟩ := box2' w (.cells #[.slice a l.length cap] 28) (.cells #[.slice none 0 0] 28)
  go_enter Try.func21, Try.ntmps21
  go_upto_region 1 with fail
  obtain ⟨W, hW⟩ : ∃ W, (w.alloc (.cells #[.slice a l.length cap] 28)).alloc (.cells #[.slice none 0 0] 28) = W := ⟨_, rfl⟩
  rw [hW] at x1 x2 hbW ⊢
  have HX : Hid _ := And.intro (h.below hbW) (And.intro hc (And.intro x1 (And.intro x2 hbW)))
  clear h hc x1 x2 hbW hW
  go_wp2_with fail
  go_loopg [3, 4, 5] l.length (fun g v3 v4 v5 wr => ∃ k : Nat, k + g = l.length ∧ v5 = .int .i64 (k : Int) ∧ Nr1 l w W k v3 v4 wr)
  case atStart => exact ⟨0, by omega, rfl, [], 0, rfl, by omega, by omega, rfl, Nat.le_refl _, Own.nil _ _ _ _, Below.refl _ _⟩
  case round =>
    obtain ⟨k, hk, rfl, G, f, rfl, f0, f1, hG, hGl, hown, hb⟩ := hrel
    obtain ⟨ga, gc, rfl⟩ := own_form hown
    have y1 := (hb.block _ (lt_of HX.out.2.2.1)).trans HX.out.2.2.1
    obtain ⟨c0, _⟩ := blk1 y1
    have HB : Hid _ := And.intro hown (And.intro hb hG)
    clear hown hb y1 hG
    obtain ⟨GL, hGL⟩ : ∃ GL, G.length = GL := ⟨_, rfl⟩
    have HGL : Hid _ := hGL
    rw [hGL] at HB hGl ⊢
    clear hGL
    by_cases hlt : k < l.length
    · obtain ⟨g, rfl⟩ : ∃ g, gk = g + 1 := ⟨gk - 1, by omega⟩
      obtain ⟨a', c', e, _, hx⟩ := HX.out.1
      simp only [Value.slice.injEq] at e
      obtain ⟨rfl, hdd, rfl⟩ := e
      clear hdd
      rcases hx with hx | ⟨b, off, rfl, hbl, hx⟩
      · rw [hx] at hlt; simp at hlt
      obtain ⟨q0, q1⟩ := hx k hlt
      have hcell : ∀ U, Below W.heap.size W U → U.cell? ⟨b, off + k * 2, none⟩ = some (.int .i64 l[k].1) ∧ U.cell? ⟨b, off + k * 2 + 1, none⟩ = some (.int .i64 l[k].2) ∧ U.cell? ⟨w.heap.size, 0, none⟩ = some (.slice (some ⟨b, off, none⟩) l.length cap) := fun U hU =>
        ⟨(hU.cell (p := ⟨b, off + k * 2, none⟩) hbl).trans q0, (hU.cell (p := ⟨b, off + k * 2 + 1, none⟩) hbl).trans q1, (blk1 ((hU.block _ (lt_of HX.out.2.2.1)).trans HX.out.2.2.1)).1⟩
      obtain ⟨e0, e1, _⟩ := hcell _ HB.out.2.1
      have hok := HX.out.2.1.ok l[k] (by simp)
      have hgp := HB.out.2.2
      rw [List.drop_eq_getElem_cons hlt, notR] at hgp
      generalize l[k] = r at *
      obtain ⟨r0, r1⟩ := r
      dsimp only at *
      obtain ⟨o1, o2, o3⟩ := hok
      have o3' : r1 ≤ 1114111 := o3
      have HC : Hid _ := hcell
      clear q0 q1 hx hcell o3
      by_cases hr : f < r0
      · rw [if_pos hr, List.append_cons] at hgp
        have HS : Hid _ := hgp
        clear hgp
        go_upto_region 8 with (first | (at_builtin; go_loud (refine wpList_put wr .i64 58 26 i58 z58 16 Try.underlying26 hi58 hz0 hzc hz1 hz3 (by decide) (.tmp 21) (.tmp 31) rfl rfl W.heap.size (.slice ga GL gc) G rfl HB.out.1 (f, r0 - 1) rfl (by rw [HGL.out]; omega) HB.out.2.1.size ?_); intro v' w7 hown7 hb7 hv7; have H7 : Hid _ := And.intro hown7 (And.intro (HB.out.2.1.trans hb7.1) hv7); clear hown7 hb7 hv7))
        clear c0 e0 e1
        obtain ⟨e0, e1, c0⟩ := HC.out _ H7.out.2.1
        go_wp2_with fail
        go_roundg g
        case measure => omega
        case rel => exact ⟨k + 1, by omega, by simp, G ++ [(f, r0 - 1)], r1 + 1, rfl, by omega, by omega, HS.out, by rw [List.length_append, List.length_singleton, HGL.out]; omega, H7.out.1, H7.out.2.1⟩
      · rw [if_neg hr] at hgp
        have HS : Hid _ := hgp
        clear hgp
        go_wp2_with fail
        go_roundg g
        case measure => omega
        case rel => exact ⟨k + 1, by omega, by simp, G, r1 + 1, rfl, by omega, by omega, HS.out, by rw [HGL.out]; omega, by rw [HGL.out] at *; exact HB.out.1, HB.out.2.1⟩
    · have hkl : k = l.length := by omega
      subst hkl
      have hgp := HB.out.2.2
      rw [List.drop_length, notR] at hgp
      have y2 := (HB.out.2.1.block _ (lt_of HX.out.2.2.2.1)).trans HX.out.2.2.2.1
      obtain ⟨c2, c3⟩ := blk1 y2
      have HY : Hid _ := y2
      clear y2
      by_cases hf : f ≤ 1114111
      · rw [if_pos hf] at hgp
        have HS : Hid _ := hgp
        clear hgp
        go_upto_region 11 with (first | (at_builtin; go_loud (refine wpList_put wr .i64 58 26 i58 z58 16 Try.underlying26 hi58 hz0 hzc hz1 hz3 (by decide) (.tmp 42) (.tmp 45) rfl rfl W.heap.size (.slice ga GL gc) G rfl HB.out.1 (f, 1114111) rfl (by rw [HGL.out]; omega) HB.out.2.1.size ?_); intro v' w7 hown7 hb7 hv7; have H7 : Hid _ := And.intro hown7 (And.intro (HB.out.2.1.trans hb7.1) hv7); clear hown7 hb7 hv7))
        obtain ⟨g7, c7, hv7⟩ := H7.out.2.2
        subst hv7
        have hown7 := H7.out.1
        rw [show G ++ [(f, 1114111)] = notR 0 l from HS.out] at hown7
        rw [show G ++ [(f, 1114111)] = notR 0 l from HS.out]
        have z2 := (H7.out.2.1.block _ (lt_of HX.out.2.2.2.1)).trans HX.out.2.2.2.1
        clear c0 c2 c3
        obtain ⟨c2, c3⟩ := blk1 z2
        have H8 : Hid _ := And.intro hown7 z2
        clear hown7 z2
        go_wp2_with fail
        have hx2 := bset (i := 0) H8.out.2 (.slice (some ⟨g7, 0, none⟩) (notR 0 l).length c7)
        simp only [List.setIfInBounds_toArray, List.set_cons_zero] at hx2
        obtain ⟨k0, _⟩ := blk1 hx2
        have hbb := HX.out.2.2.2.2.trans (H7.out.2.1.mono HX.out.2.2.2.2.size)
        refine bodyPost_ret (v := sV (.slice (some ⟨g7, 0, none⟩) (notR 0 l).length c7)) (by simp [results, Try.results21, go_sem, k0]) rfl ⟨_, _, rfl, ?_, hbb.setCell (p := ⟨w.heap.size + 1, 0, none⟩) (by simp) _⟩
        exact own_set (H8.out.1.mono (by have := HX.out.2.2.2.2.size; omega)) H8.out.2 (by decide) 0 _
      · rw [if_neg hf, List.append_nil] at hgp
        subst hgp
        rw [← HGL.out] at HB ⊢
        go_wp2_with fail
        have hx2 := bset (i := 0) HY.out (.slice ga (notR 0 l).length gc)
        simp only [List.setIfInBounds_toArray, List.set_cons_zero] at hx2
        obtain ⟨k0, _⟩ := blk1 hx2
        have hbb := HX.out.2.2.2.2.trans (HB.out.2.1.mono HX.out.2.2.2.2.size)
        refine bodyPost_ret (v := sV (.slice ga (notR 0 l).length gc)) (by simp [results, Try.results21, go_sem, k0]) rfl ⟨_, _, rfl, ?_, hbb.setCell (p := ⟨w.heap.size + 1, 0, none⟩) (by simp) _⟩
        exact own_set (HB.out.1.mono (by have := HX.out.2.2.2.2.size; omega)) HY.out (by decide) 0 _
end Go.Proofs.Yteddjjabbehfdaa
