/- has: whether a set has a space; rising. -/
import Derived.Test.YtknfipcegmajaaaDoorHP1
import Derived.Test.YtknfipcegmajaaaDoorHJ13
import Derived.Test.YtknfipcegmajaaaDoorHLay
import Derived.Sort.OwnSorted
import Derived.Lib.OwnBridge
namespace Go.Proofs.YtknfipcegmajaaaDoor
open Go.RowKit
set_option linter.unusedVariables false
set_option linter.unusedSimpArgs false

theorem search_p (l : List Tx) (x : Tx) (v : Value) (w : World) (h : TxR w v l) (hi : Inc l) (hl : l.length < 100000) :
    Calls Tryd.prog 47 #[v, eS x] w fun e w' => ∃ i : Int, e = .returned (.tuple #[.int .i64 i, .bool (decide (x ∈ l))]) ∧ Below w.heap.size w w' := by
  obtain ⟨a, c, rfl, hc⟩ := h.len
  by_cases h0 : l = []
  · subst h0
    refine (Tryd.slices_BinarySearch_string_empty a c (sB x) w).mono ?_
    rintro e w' ⟨rfl, rfl⟩
    exact ⟨0, rfl, Below.refl _ _⟩
  · have hp : 0 < l.length := List.length_pos_iff.2 h0
    obtain ⟨g, off, rfl, hg, hat⟩ := tx_at h hp
    let Sx : Nat → ByteArray := fun t => if q : t < l.length then sB l[t] else sB x
    refine (Tryd.slices_BinarySearch_string g off l.length c Sx (sB x) w (by omega) (fun j hj => by rw [hat j hj]; simp [Sx, hj])).mono ?_
    rintro e w' ⟨rfl, q, rfl⟩
    have hs : Lib.bsGo (fun t => Op.bytesLess (Sx t).toList (sB x).toList) l.length 0 l.length = lw x l := by
      refine search_inc hi _ fun t => ?_
      rw [bytesLess_eq, Lib.toList_data, Lib.toList_data]
      by_cases ht : t < l.length
      · simp only [Sx, ht, dif_pos]; rfl
      · simp only [Sx, ht, dif_neg, not_false_eq_true]
        exact decide_eq_false (tx_irr _)
    rw [hs]
    refine ⟨((lw x l : Nat) : Int), ?_, below_drewN q⟩
    have : decide (lw x l < l.length ∧ Sx (lw x l) = sB x) = decide (x ∈ l) := by
      rw [decide_eq_decide, ← lw_mem hi]
      constructor
      · rintro ⟨h1, h2⟩
        simp only [Sx, h1, dif_pos, sB_inj] at h2
        exact ⟨h1, h2⟩
      · rintro ⟨h1, h2⟩
        refine ⟨h1, ?_⟩
        simp only [Sx, h1, dif_pos, h2]
    rw [this]
theorem bel_blk {w w' : World} {o : Obj} (hb : Below (w.alloc o).heap.size (w.alloc o) w') : w'.heap[w.heap.size]? = some o := (hb.block _ (by rw [sza]; omega)).trans (nw_heap w o)
theorem cell_blk {W : World} {X i : Nat} {cs : Array Value} {t : TypeId} {v : Value} (h : W.heap[X]? = some (.cells cs t (0, 0))) (hi : cs[i]? = some v) : W.cell? ⟨X, i, none⟩ = some v := by simp [World.cell?, h, hi]
set_option maxHeartbeats 1000000 in
theorem has_p (s : Sp) (x : Tx) (v : Value) (w : World) (h : SpV w v s) (hi : Inc s.l) (hl : s.l.length < 100000) : Calls Tryd.prog 37 #[v, eS x] w fun e w' => e = .returned (.bool (s.has x)) ∧ Below w.heap.size w w' := by
  obtain ⟨sl, rfl, h⟩ := h
  obtain ⟨a, c, rfl, hc⟩ := h.len
  have hq := search_p s.l x _ (w.alloc (.cells #[.bool s.o, .slice a s.l.length c] 56)) (h.below (bel1 _ _)) hi hl
  have HQ : Hid _ := hq
  clear hq h
  go_enter Tryd.func37, Tryd.ntmps37
  go_wp2_with fail
  refine Calls.mono HQ.out ?_
  rintro e w1 ⟨i, rfl, hb⟩
  have e2 : w1.cell? ⟨w.heap.size, 0, none⟩ = some (.bool s.o) := cell_blk (bel_blk hb) rfl
  have hb' : Below w.heap.size w w1 := (bel1 w _).trans (hb.mono (by rw [sza]; omega))
  have HB : Hid _ := hb'
  clear hb hb'
  go_wp2_with fail
  go_ret
  exact ⟨rfl, HB.out⟩
theorem own_blk {w : World} {base : Nat} {v : Value} {l : List Tx} (h : OwS w base v l) (hl : l ≠ []) : ∃ g cap cur, v = .slice (some ⟨g, 0, none⟩) l.length cap ∧ base ≤ g ∧ w.heap[g]? = some (.cells cur 9 (0, 0)) ∧ l.length ≤ cap ∧ cap ≤ maxLen ∧ cur.size = cap * 1 ∧ cur.toList.take (l.length * 1) = tc l := by
  rcases h.2 with ⟨rfl, h0⟩ | ⟨g, cap, cur, rfl, h3, h4, h5, h6, h7, h8⟩
  · exact absurd (List.length_eq_zero_iff.1 h0) hl
  · exact ⟨g, cap, cur, rfl, h3, h4, h5, h6, h7, h8⟩
theorem tc_enc (l : List Tx) : tc l = l.map Go.Proofs.encStr := rfl
set_option maxHeartbeats 1000000 in
/-- rising, of a row of its caller's own. -/
theorem rising_p (base : Nat) (l : List Tx) (v : Value) (w : World) (h : OwS w base v l) (hb : base ≤ w.heap.size) (hl : l.length < 100000) :
    Calls Tryd.prog 41 #[v] w fun e w' => ∃ v', e = .returned v' ∧ TxR w' v' (rs l) ∧ Below base w w' := by
  by_cases h0 : l = []
  · subst h0
    obtain ⟨a, c, rfl⟩ := row_form h
    have q1 := Tryd.slices_Sort_string_none a c w
    have q2 := Tryd.slices_Compact_string_empty a c w
    have HQ : Hid _ := And.intro q1 q2
    clear q1 q2 h
    show Calls Tryd.prog 41 #[.slice a 0 c] w _
    go_enter Tryd.func41, Tryd.ntmps41
    go_wp2_with fail
    refine Calls.mono HQ.out.1 ?_
    rintro e w1 ⟨rfl, rfl⟩
    go_wp2_with fail
    refine Calls.mono HQ.out.2 ?_
    rintro e w2 ⟨rfl, rfl⟩
    go_wp2_with fail
    go_ret
    exact ⟨_, rfl, TxR.nil _ _ _, Below.refl _ _⟩
  · obtain ⟨g, cap, cur, rfl, h3, h4, h5, h6, h7, h8⟩ := own_blk h h0
    have hH := holds_of_block h4 (by rw [Nat.mul_one] at h8; exact h8)
    have q1 := Tryd.slices_Sort_string g 0 cap l w hH (lt_of h4) (by omega)
    obtain ⟨L, hL⟩ : ∃ L, l.mergeSort (fun x y => decide (x ≤ y)) = L := ⟨_, rfl⟩
    have hLl : L.length = l.length := by rw [← hL, List.length_mergeSort]
    have hrs : Lib.compact L = rs l := by rw [← hL]; exact comp_rs l
    rw [hL] at q1
    have q2 : ∀ W : World, OwS W base (.slice (some ⟨g, 0, none⟩) l.length cap) L → Calls Tryd.prog 50 #[.slice (some ⟨g, 0, none⟩) l.length cap] W fun e w' => ∃ v', e = .returned v' ∧ TxR w' v' (rs l) ∧ Below base W w' := by
      intro W hW
      have hL0 : L ≠ [] := fun e => by rw [e] at hLl; exact h0 (List.length_eq_zero_iff.1 hLl.symm)
      rw [← hLl] at hW ⊢
      obtain ⟨g', cap', cur', e, h3', h4', h5', h6', h7', h8'⟩ := own_blk hW hL0
      simp only [Value.slice.injEq, Option.some.injEq, Addr.mk.injEq] at e
      obtain ⟨⟨rfl, _, _⟩, _, rfl⟩ := e
      have hH' := holds_of_block h4' (by rw [Nat.mul_one] at h8'; exact h8')
      refine (Tryd.slices_Compact_string g 0 cap L W hH' (by omega) h5').mono ?_
      rintro e w' ⟨rfl, q, rfl⟩
      refine ⟨_, rfl, ?_, Lib.below_putRow (Below.refl _ _) h3'⟩
      have hcl := Lib.compact_length_le L
      have ho := Lib.ownsRow_putRow (q := q) (k := (Lib.compact L).length) (ys := Lib.compact L ++ List.replicate (L.length - (Lib.compact L).length) []) (enc := Go.Proofs.encStr) (zs := L) hW (by simp; omega) hcl
      rw [List.take_left] at ho
      have := OwS.tx (l := Lib.compact L) ho
      rw [hrs] at this
      rw [hrs]
      exact this
    have HQ : Hid _ := And.intro q1 (And.intro q2 hLl)
    have HG : Hid _ := And.intro h3 (And.intro h4 (And.intro h5 (And.intro h6 h7)))
    have HL : Hid _ := hL
    clear q1 q2 hH h3 h4 h5 h6 h7 h8 h hL hLl
    go_enter Tryd.func41, Tryd.ntmps41
    go_wp2_with fail
    refine Calls.mono HQ.out.1 ?_
    rintro e w1 ⟨rfl, n, os, hw⟩
    have ho : OwS w1 base (.slice (some ⟨g, 0, none⟩) l.length cap) L := by
      have := ownsRow_sorted (n := n) (os := os) (ts := L) HQ.out.2.2 HG.out.1 HG.out.2.1 HG.out.2.2.1 HG.out.2.2.2.1 HG.out.2.2.2.2
      rw [hw]
      unfold OwS
      rw [HQ.out.2.2]
      exact this
    have hb1 : Below base w w1 := by
      rw [hw]
      exact (Below.refl base w).grown (grownBy_sorted L.toArray) hb (fun k hk => by cases hk; exact HG.out.1)
    have H1 : Hid _ := And.intro ho hb1
    clear ho hb1 hw
    go_wp2_with fail
    refine Calls.mono (HQ.out.2.1 w1 H1.out.1) ?_
    rintro e w2 ⟨v', rfl, ht, hb2⟩
    have H2 : Hid _ := And.intro ht hb2
    clear ht hb2
    go_wp2_with fail
    go_ret
    exact ⟨_, rfl, H2.out.1, H1.out.2.trans H2.out.2⟩
end Go.Proofs.YtknfipcegmajaaaDoor
