/- Joined: HP4, HP5, HP6, HP7, HP8, HP9, HP10, HR1, HR2, HP11, HP12, HR3, HR4, HR5, HP13, HP14, HW4, HN2, HW5. -/
import Derived.Test.YtknfipcegmajaaaDoorHP3
import Derived.Deep.Onto
import Derived.Test.YtknfipcegmajaaaDoorHJ13
import Derived.Test.YtknfipcegmajaaaDoorHJ11
namespace Go.Proofs.YtknfipcegmajaaaDoor
open Go.RowKit
set_option linter.unusedVariables false
set_option linter.unusedSimpArgs false

theorem chosen_snoc (l : List Tx) (s : Sp) (k : Nat) (h : k < l.length) : chosen (l.take (k + 1)) s = chosen (l.take k) s ++ (if s.has l[k] = true then [l[k]] else []) := by
  rw [take_snoc h, chosen, List.filter_append, chosen]
  congr 1
  by_cases g : s.has l[k] = true <;> simp [g]
theorem chosen_len (l : List Tx) (s : Sp) : (chosen l s).length ≤ l.length := List.length_filter_le _ _
/-- Where the loop stands. -/
def ChR (l : List Tx) (s : Sp) (w : World) (v : Value) (wr : World) : Prop := OwS wr w.heap.size v l ∧ Below w.heap.size w wr
set_option maxRecDepth 8000 in
set_option maxHeartbeats 4000000 in
theorem chosen_p (l : List Tx) (s : Sp) (vl vs : Value) (w : World) (h : TxR w vl l) (hs : SpV w vs s) (hi : Inc s.l) (hl : l.length < 10000) (hsl : s.l.length < 10000) :
    Calls Tryd.prog 45 #[vl, vs] w fun e w' => ∃ v', e = .returned v' ∧ OwS w' w.heap.size v' (chosen l s) ∧ Below w.heap.size w w' := by
  obtain ⟨i0, hi0, hz0, hz1, hz2⟩ := info_sp
  obtain ⟨a, c, rfl, hc⟩ := h.len
  obtain ⟨sl, rfl, hs⟩ := hs
  obtain ⟨b, d, rfl, hd⟩ := hs.len
  have hW : Below w.heap.size w (w.alloc (.cells #[.bool s.o, .slice b s.l.length d] 56)) := bel1 _ _
  have ht := h.below hW
  have hst := hs.below hW
  have hbx : (w.alloc (.cells #[.bool s.o, .slice b s.l.length d] 56)).heap[w.heap.size]? = some (.cells #[.bool s.o, .slice b s.l.length d] 56 (0, 0)) := nw_heap _ _
  have HX : Hid _ := And.intro ht (And.intro hst (And.intro hbx hW))
  have HW : Hid _ := And.intro hi hsl
  have hsz : (w.alloc (.cells #[.bool s.o, .slice b s.l.length d] 56)).heap.size = w.heap.size + 1 := sza _ _
  have HZ : Hid _ := hsz
  clear ht hst hbx hW h hs hi hsl hsz
  generalize hn : l.length = n at hl hc HX ⊢
  have Hn : Hid (l.length = n) := hn
  clear hn
  go_enter Tryd.func45, Tryd.ntmps45
  go_wp2_with fail
  generalize hW0 : (w.alloc (.cells #[.bool s.o, .slice b s.l.length d] 56)) = W0 at HX HZ ⊢
  clear hW0
  go_loopg [5, 10] n (fun g v5 v10 wr => ∃ k : Nat, k + g = n ∧ v10 = .int .i64 (k : Int) ∧ ChR (chosen (l.take k) s) s W0 v5 wr)
  case atStart => exact ⟨0, by omega, rfl, OwS.nil _ _, Below.refl _ _⟩
  case round =>
    obtain ⟨k, hk, rfl, hown, hb⟩ := hrel
    obtain ⟨ya, yc, rfl⟩ := row_form hown
    have HB : Hid _ := And.intro hown hb
    clear hown hb
    by_cases hlt : k < n
    · obtain ⟨gg, rfl⟩ : ∃ gg, gk = gg + 1 := ⟨gk - 1, by omega⟩
      have hkl : k < l.length := by rw [Hn.out]; exact hlt
      obtain ⟨g0, off, rfl, hg0, hat⟩ := tx_at HX.out.1 (by omega)
      have e0 : wr.cell? ⟨g0, off + k, none⟩ = some (.string (sB (l[k]'hkl))) := (HB.out.2.cell (p := ⟨g0, off + k, none⟩) hg0).trans (hat k hkl)
      have hbk : wr.heap[w.heap.size]? = some (.cells #[.bool s.o, .slice b s.l.length d] 56 (0, 0)) := (HB.out.2.block _ (by rw [HZ.out]; omega)).trans HX.out.2.2.1
      have e1 : wr.cell? ⟨w.heap.size, 0, none⟩ = some (.bool s.o) := cell_blk hbk rfl
      have e2 : wr.cell? ⟨w.heap.size, 1, none⟩ = some (.slice b s.l.length d) := cell_blk hbk rfl
      have hsn := chosen_snoc l s k hkl
      have hcl := chosen_len (l.take k) s
      rw [List.length_take] at hcl
      obtain ⟨x, hx⟩ : ∃ x, l[k] = x := ⟨_, rfl⟩
      rw [hx] at e0 hsn
      have hq := has_p s x (.agg #[.bool s.o, .slice b s.l.length d]) wr ⟨_, rfl, HX.out.2.1.below HB.out.2⟩ HW.out.1 (by have := HW.out.2; omega)
      obtain ⟨P, hP⟩ : ∃ P, chosen (l.take k) s = P := ⟨_, rfl⟩
      rw [hP] at HB hsn hcl ⊢
      have HQ : Hid _ := And.intro hq hsn
      have hPl : P.length ≤ 10000 := by omega
      clear hq hsn hat hbk hP hx hcl
      go_wp2_with fail
      refine Calls.mono HQ.out.1 ?_
      rintro e w1 ⟨rfl, hb1⟩
      by_cases hh : s.has x = true
      · have h1 := row_below HB.out.1 hb1
        have h2 := HB.out.2.trans (hb1.mono HB.out.2.size)
        have H1 : Hid _ := And.intro h1 h2
        clear h1 h2 hb1
        rw [hh]
        go_wp2_with (first | (at_builtin; refine wpList_append_own _ rfl (.tmp 17) (.tmp 19) 23 rfl W0.heap.size 9 i0 (.string ⟨#[]⟩) 1 16 Tryd.underlying23 hi0 hz0 hz1 hz2 rfl (by decide) _ _ _ rfl (H1.out.1.alloc _) ⟨w1.heap.size, 0, none⟩ 1 1 [.string (sB x)] rfl rfl (cell_one_new _ _ _) (by intro u hu; simp at hu; subst hu; rfl) (by unfold maxLen; omega) (by omega) (by have := H1.out.2.size; simp; omega) ?_; intro v3n w3 hown3 hgr3 _; have H3 : Hid _ := And.intro hown3 ((H1.out.2.alloc H1.out.2.size _).grown hgr3 (by have := H1.out.2.size; simp; omega) (fun j hj => (H1.out.1.lt j hj).1)); clear hown3 hgr3))
        go_roundg gg
        case measure => omega
        case rel =>
          refine ⟨k + 1, by omega, by simp, ?_, H3.out.2⟩
          rw [HQ.out.2, if_pos hh]
          unfold OwS
          rw [tc_app, List.length_append]
          exact H3.out.1
      · have h1 := row_below HB.out.1 hb1
        have h2 := HB.out.2.trans (hb1.mono HB.out.2.size)
        have H1 : Hid _ := And.intro h1 h2
        clear h1 h2 hb1
        have hh' : s.has x = false := by simpa using hh
        rw [hh']
        go_wp2_with fail
        go_roundg gg
        case measure => omega
        case rel =>
          refine ⟨k + 1, by omega, by simp, ?_, H1.out.2⟩
          rw [HQ.out.2, if_neg hh, List.append_nil]
          exact H1.out.1
    · have hkn : k = n := by omega
      subst hkn
      have htk : l.take k = l := List.take_of_length_le (by rw [Hn.out]; exact Nat.le_refl _)
      rw [htk] at HB ⊢
      go_wp2_with fail
      go_ret
      refine ⟨_, rfl, ?_, HX.out.2.2.2.trans (HB.out.2.mono (by rw [HZ.out]; omega))⟩
      have := HB.out.1
      exact this.mono (by rw [HZ.out]; omega)
end Go.Proofs.YtknfipcegmajaaaDoor
namespace Go.Proofs.YtknfipcegmajaaaDoor
open Go.RowKit
set_option linter.unusedVariables false
set_option linter.unusedSimpArgs false

def BtQ (s : Sp) (w : World) (e : Ending) (w' : World) : Prop := ∃ v', e = .returned v' ∧ SpV w' v' s ∧ Below w.heap.size w w'
abbrev w3 (w : World) (a b : Value) : World := ((w.alloc (.cells a.cells 56)).alloc (.cells b.cells 56)).alloc (.cells #[.bool false, .slice none 0 0] 56)
theorem set2_heap {W : World} {X : Nat} {a b : Value} {t : TypeId} (x y : Value) (h : W.heap[X]? = some (.cells #[a, b] t (0, 0))) : ((W.setCell ⟨X, 0, none⟩ x).setCell ⟨X, 1, none⟩ y).heap[X]? = some (.cells #[x, y] t (0, 0)) :=
  bset (bset h x) y
/-- The result's cells written behind a call. -/
theorem bt_end {N : Nat} {w W1 : World} {X : Nat} {s : Sp} {v : Value} (h1 : Below w.heap.size w W1) (hX : W1.heap[X]? = some (.cells #[.bool false, .slice none 0 0] 56 (0, 0))) (hN : w.heap.size ≤ X) (ht : TxR W1 v s.l) (hv : ∀ g o n c, v = .slice (some ⟨g, o, none⟩) n c → s.l ≠ [] → g ≠ X) :
    TxR ((W1.setCell ⟨X, 0, none⟩ (.bool s.o)).setCell ⟨X, 1, none⟩ v) v s.l ∧ Below w.heap.size w ((W1.setCell ⟨X, 0, none⟩ (.bool s.o)).setCell ⟨X, 1, none⟩ v) := by
  refine ⟨?_, (h1.setCell hN _).setCell hN _⟩
  obtain ⟨a, cap, rfl, hc, h⟩ := ht
  refine ⟨a, cap, rfl, hc, ?_⟩
  by_cases h0 : s.l = []
  · exact .inl h0
  · rcases h with h | ⟨g, off, rfl, hg, h⟩
    · exact absurd h h0
    · refine .inr ⟨g, off, rfl, by simpa [World.setCell] using hg, fun j hj => ?_⟩
      have hne := hv g off _ _ rfl h0
      have hh : ((W1.setCell ⟨X, 0, none⟩ (.bool s.o)).setCell ⟨X, 1, none⟩ (.slice (some ⟨g, off, none⟩) s.l.length cap)).heap[g]? = W1.heap[g]? := by
        rw [Below.heap_setCell _ _ _ _ (by exact hne), Below.heap_setCell _ _ _ _ (by exact hne)]
      rw [cell_of hh (h j hj)]
theorem tx_ne {W : World} {X : Nat} {v : Value} {l : List Tx} {t : TypeId} {cs : Array Value} (h : TxR W v l) (hX : W.heap[X]? = some (.cells cs t (0, 0))) (hc : ∀ u ∈ cs.toList, ∀ x, u ≠ .string x) : ∀ g o n c, v = .slice (some ⟨g, o, none⟩) n c → l ≠ [] → g ≠ X := by
  rintro g o n c rfl h0 rfl
  obtain ⟨a, cap, e, _, h⟩ := h
  simp only [Value.slice.injEq] at e
  obtain ⟨rfl, _, _⟩ := e
  rcases h with h | ⟨g', off, e, hg, h⟩
  · exact h0 h
  · simp only [Option.some.injEq, Addr.mk.injEq] at e
    obtain ⟨rfl, rfl, _⟩ := e
    have := h 0 (List.length_pos_iff.2 h0)
    simp only [World.cell?, hX] at this
    simp at this
    exact hc _ (by simpa using Array.mem_of_getElem? this) _ rfl
theorem sp_ne (a : Bool) (v : Value) (hv : ∀ x, v ≠ .string x) : ∀ u ∈ (#[.bool a, v] : Array Value).toList, ∀ x, u ≠ .string x := by
  intro u hu x e
  simp only [List.mem_cons, List.not_mem_nil, or_false] at hu
  rcases hu with rfl | rfl
  · cases e
  · exact hv x e
set_option maxRecDepth 8000 in
set_option maxHeartbeats 4000000 in
theorem both_p (a b : Sp) (va vb : Value) (w : World) (ha : SpV w va a) (hb : SpV w vb b) (ia : Inc a.l) (ib : Inc b.l) (la : a.l.length < 5000) (lb : b.l.length < 5000) :
    Calls Tryd.prog 33 #[va, vb] w fun e w' => BtQ (bothS a b) w e w' := by
  obtain ⟨sa, rfl, ha⟩ := ha
  obtain ⟨pa, ca, rfl, ha2⟩ := ha.len
  obtain ⟨sb, rfl, hb⟩ := hb
  obtain ⟨pb, cb, rfl, hb2⟩ := hb.len
  have h3 : Below w.heap.size w (((w.alloc (.cells #[.bool a.o, .slice pa a.l.length ca] 56)).alloc (.cells #[.bool b.o, .slice pb b.l.length cb] 56)).alloc (.cells #[.bool false, .slice none 0 0] 56)) := bel3 _ _ _ _
  have hx : (((w.alloc (.cells #[.bool a.o, .slice pa a.l.length ca] 56)).alloc (.cells #[.bool b.o, .slice pb b.l.length cb] 56)).alloc (.cells #[.bool false, .slice none 0 0] 56)).heap[w.heap.size + 1 + 1]? = some (.cells #[.bool false, .slice none 0 0] 56 (0, 0)) := nw_at (sza2 _ _ _) _
  have HX : Hid _ := And.intro h3 hx
  have HR : Hid _ := And.intro (ha.below h3) (hb.below h3)
  clear h3 ha hb hx
  go_enter Tryd.func33, Tryd.ntmps33
  go_wp2_with fail
  · have g : (!a.o) = true := by assumption
    generalize (((w.alloc (.cells #[.bool a.o, .slice pa a.l.length ca] 56)).alloc (.cells #[.bool b.o, .slice pb b.l.length cb] 56)).alloc (.cells #[.bool false, .slice none 0 0] 56)) = W0 at HX HR ⊢
    refine Calls.mono (chosen_p a.l b _ _ _ HR.out.1 ⟨_, rfl, HR.out.2⟩ ib (by omega) (by omega)) ?_
    rintro e w1 ⟨v1, rfl, hown, hb1⟩
    have hx1 := (hb1.block _ (lt_of HX.out.2)).trans HX.out.2
    obtain ⟨⟨c0, f0⟩, ⟨c1, f1⟩⟩ := blk2 hx1
    have H1 : Hid _ := And.intro hown.tx (And.intro (HX.out.1.trans (hb1.mono HX.out.1.size)) hx1)
    obtain ⟨ya, yc, rfl⟩ := row_form hown
    clear hown hb1 hx1
    go_wp2_with fail
    have e : bothS a b = ⟨false, chosen a.l b⟩ := by unfold bothS; rw [if_pos (by simpa using g)]
    have hbt := bt_end (N := 0) (s := ⟨false, chosen a.l b⟩) H1.out.2.1 H1.out.2.2 (by omega) H1.out.1 (tx_ne H1.out.1 H1.out.2.2 (sp_ne _ _ (fun x e => by cases e)))
    rw [e]
    refine ret_sp (X := w.heap.size + 1 + 1) Tryd.results33 rfl rfl ⟨_, set2_heap _ _ H1.out.2.2, rfl, ?_⟩
    exact ⟨_, rfl, ⟨_, rfl, hbt.1⟩, hbt.2⟩
  · have g : (!a.o) = false := by assumption
    have g2 : (!b.o) = true := by assumption
    generalize (((w.alloc (.cells #[.bool a.o, .slice pa a.l.length ca] 56)).alloc (.cells #[.bool b.o, .slice pb b.l.length cb] 56)).alloc (.cells #[.bool false, .slice none 0 0] 56)) = W0 at HX HR ⊢
    refine Calls.mono (chosen_p b.l a _ _ _ HR.out.2 ⟨_, rfl, HR.out.1⟩ ia (by omega) (by omega)) ?_
    rintro e w1 ⟨v1, rfl, hown, hb1⟩
    have hx1 := (hb1.block _ (lt_of HX.out.2)).trans HX.out.2
    obtain ⟨⟨c0, f0⟩, ⟨c1, f1⟩⟩ := blk2 hx1
    have H1 : Hid _ := And.intro hown.tx (And.intro (HX.out.1.trans (hb1.mono HX.out.1.size)) hx1)
    obtain ⟨ya, yc, rfl⟩ := row_form hown
    clear hown hb1 hx1
    go_wp2_with fail
    have e : bothS a b = ⟨false, chosen b.l a⟩ := by unfold bothS; rw [if_neg (by simpa using g), if_pos (by simpa using g2)]
    have hbt := bt_end (N := 0) (s := ⟨false, chosen b.l a⟩) H1.out.2.1 H1.out.2.2 (by omega) H1.out.1 (tx_ne H1.out.1 H1.out.2.2 (sp_ne _ _ (fun x e => by cases e)))
    rw [e]
    refine ret_sp (X := w.heap.size + 1 + 1) Tryd.results33 rfl rfl ⟨_, set2_heap _ _ H1.out.2.2, rfl, ?_⟩
    exact ⟨_, rfl, ⟨_, rfl, hbt.1⟩, hbt.2⟩
  · have g : (!a.o) = false := by assumption
    have g2 : (!b.o) = false := by assumption
    have hz : (((w.alloc (.cells #[.bool a.o, .slice pa a.l.length ca] 56)).alloc (.cells #[.bool b.o, .slice pb b.l.length cb] 56)).alloc (.cells #[.bool false, .slice none 0 0] 56)).heap.size = w.heap.size + 1 + 1 + 1 := by rw [sza, sza, sza]
    generalize (((w.alloc (.cells #[.bool a.o, .slice pa a.l.length ca] 56)).alloc (.cells #[.bool b.o, .slice pb b.l.length cb] 56)).alloc (.cells #[.bool false, .slice none 0 0] 56)) = W0 at HX HR hz ⊢
    rw [← hz]
    have hrow : (W0.alloc (.cells #[.slice pa a.l.length ca, .slice pb b.l.length cb] 23)).heap[W0.heap.size]? = some (.cells #[.slice pa a.l.length ca, .slice pb b.l.length cb] 23 (0, 0)) := nw_heap _ _
    have hbw : Below W0.heap.size W0 (W0.alloc (.cells #[.slice pa a.l.length ca, .slice pb b.l.length cb] 23)) := bel1 _ _
    have hw1 : (W0.alloc (.cells #[.slice pa a.l.length ca, .slice pb b.l.length cb] 23)).heap.size = W0.heap.size + 1 := sza _ _
    have hA := HR.out.1.below hbw
    have hB := HR.out.2.below hbw
    generalize (W0.alloc (.cells #[.slice pa a.l.length ca, .slice pb b.l.length cb] 23)) = W1 at hrow hbw hw1 hA hB ⊢
    have hcc := concat_s W0.heap.size 2 (fun j => if j = 0 then .slice pa a.l.length ca else .slice pb b.l.length cb) [a.l, b.l] W1 (by omega)
      (fun j hj => by
        have hj' : j < 2 := hj
        rcases (show j = 0 ∨ j = 1 by omega) with rfl | rfl
        · exact cell_blk hrow rfl
        · exact cell_blk hrow rfl)
      (fun j hj => by
        have hj' : j < 2 := hj
        rcases (show j = 0 ∨ j = 1 by omega) with rfl | rfl
        · exact hA
        · exact hB) rfl (by omega) (by simp; omega)
    refine Calls.mono hcc ?_
    rintro e w2 ⟨v2, rfl, hown2, hb2⟩
    have hfl : [a.l, b.l].flatten = a.l ++ b.l := by simp
    rw [hfl] at hown2
    have hbx := (hbw.trans (hb2.mono (by omega)))
    have hx2 := (hbx.block _ (lt_of HX.out.2)).trans HX.out.2
    have H2 : Hid _ := And.intro hown2 (And.intro (HX.out.1.trans (hbx.mono HX.out.1.size)) hx2)
    have Hs : Hid _ := And.intro hw1 (And.intro hz hb2.size)
    clear hcc hown2 hb2 hbx hx2 hrow hbw hA hB hw1
    go_wp2_with fail
    refine Calls.mono (rising_p W1.heap.size (a.l ++ b.l) _ _ H2.out.1 Hs.out.2.2 (by simp; omega)) ?_
    rintro e w3 ⟨v3, rfl, ht3, hb3⟩
    have hs := Hs.out
    have hx3 := (hb3.block (w.heap.size + 1 + 1) (by omega)).trans H2.out.2.2
    obtain ⟨⟨c0, f0⟩, ⟨c1, f1⟩⟩ := blk2 hx3
    have H3 : Hid _ := And.intro ht3 (And.intro (H2.out.2.1.trans (hb3.mono (by omega))) hx3)
    obtain ⟨ya, yc, rfl, _⟩ := ht3.len
    clear ht3 hb3 hx3 hs
    go_wp2_with fail
    have e : bothS a b = ⟨true, rs (a.l ++ b.l)⟩ := by unfold bothS; rw [if_neg (by simpa using g), if_neg (by simpa using g2)]
    have hbt := bt_end (N := 0) (s := ⟨true, rs (a.l ++ b.l)⟩) H3.out.2.1 H3.out.2.2 (by omega) H3.out.1 (tx_ne H3.out.1 H3.out.2.2 (sp_ne _ _ (fun x e => by cases e)))
    rw [e]
    refine ret_sp (X := w.heap.size + 1 + 1) Tryd.results33 rfl rfl ⟨_, set2_heap _ _ H3.out.2.2, rfl, ?_⟩
    exact ⟨_, rfl, ⟨_, rfl, hbt.1⟩, hbt.2⟩
end Go.Proofs.YtknfipcegmajaaaDoor
namespace Go.Proofs.YtknfipcegmajaaaDoor
open Go.RowKit
set_option linter.unusedVariables false
set_option linter.unusedSimpArgs false

theorem less_eq (x y : Tx) : Op.bytesLess (sB x).toList (sB y).toList = decide (x < y) := by
  rw [bytesLess_eq, Lib.toList_data, Lib.toList_data]; rfl
set_option maxRecDepth 8000 in
set_option maxHeartbeats 2000000 in
theorem rises_p (l : List Tx) (v : Value) (w : World) (h : TxR w v l) (hl : l.length ≤ maxLen) : Calls Tryd.prog 31 #[v] w fun e w' => e = .returned (.bool (decide (Inc l))) ∧ Below w.heap.size w w' := by
  obtain ⟨a, c, rfl, hc⟩ := h.len
  have HX : Hid (TxR w (.slice a l.length c) l) := h
  clear h
  unfold maxLen at hl
  obtain ⟨T, hT⟩ : ∃ T, decide (Inc l) = T := ⟨_, rfl⟩
  rw [hT]
  have HT : Hid _ := hT
  clear hT
  generalize hn : l.length = n at hl hc HX ⊢
  have Hn : Hid (l.length = n) := hn
  clear hn
  go_enter Tryd.func31, Tryd.ntmps31
  go_wp2_with fail
  go_loopg [3] (n + 1) (fun g v3 wr => ∃ k : Nat, k + g = n + 1 ∧ v3 = .int .i64 ((k : Int) + 1) ∧ (∀ j (h : j + 1 < l.length), j + 1 ≤ k → l[j]'(by omega) < l[j + 1]) ∧ Below w.heap.size w wr)
  case atStart => exact ⟨0, by omega, rfl, fun j h hj => by omega, Below.refl _ _⟩
  case round =>
    obtain ⟨k, hk, rfl, hall, hb⟩ := hrel
    have HB : Hid _ := And.intro hall hb
    clear hall hb
    by_cases hlt : k + 1 < n
    · obtain ⟨gg, rfl⟩ : ∃ gg, gk = gg + 1 := ⟨gk - 1, by omega⟩
      have hkl : k + 1 < l.length := by rw [Hn.out]; exact hlt
      obtain ⟨g0, off, rfl, hg0, hat⟩ := tx_at HX.out (by omega)
      have e0 : wr.cell? ⟨g0, off + k, none⟩ = some (.string (sB (l[k]'(by omega)))) := (HB.out.2.cell (p := ⟨g0, off + k, none⟩) hg0).trans (hat k _)
      have e1 : wr.cell? ⟨g0, off + (k + 1), none⟩ = some (.string (sB l[k + 1])) := (HB.out.2.cell (p := ⟨g0, off + (k + 1), none⟩) hg0).trans (hat (k + 1) hkl)
      have hle := less_eq (l[k]'(by omega)) l[k + 1]
      by_cases hq : l[k]'(by omega) < l[k + 1]
      · rw [decide_eq_true hq] at hle
        have hstep : ∀ j (h : j + 1 < l.length), j + 1 ≤ k + 1 → l[j]'(by omega) < l[j + 1] := fun j h hj => by
          by_cases e : j = k
          · subst e; exact hq
          · exact HB.out.1 j h (by omega)
        have HS : Hid _ := hstep
        clear hstep hq
        generalize l[k]'(by omega) = x at e0 hle
        generalize l[k + 1] = y at e1 hle
        clear hat
        go_wp2_with fail
        go_quiet (fail)
        go_wp2_with fail
        go_roundg gg
        case measure => omega
        case rel => exact ⟨k + 1, by omega, by go_num, HS.out, bdrewN HB.out.2 _⟩
      · rw [decide_eq_false hq] at hle
        have hf : T = false := by
          rw [← HT.out]
          exact decide_eq_false fun q => hq (adj_inc q k hkl)
        subst hf
        generalize l[k]'(by omega) = x at e0 hle
        generalize l[k + 1] = y at e1 hle
        clear hat hq
        go_wp2_with fail
        go_quiet (fail)
        go_wp2_with fail
        go_ret
        exact ⟨rfl, bdrewN HB.out.2 _⟩
    · have ht : T = true := by
        rw [← HT.out]
        exact decide_eq_true (inc_adj fun j h => HB.out.1 j h (by have := Hn.out; omega))
      subst ht
      go_wp2_with fail
      go_ret
      exact ⟨rfl, HB.out.2⟩
end Go.Proofs.YtknfipcegmajaaaDoor
namespace Go.Proofs.YtknfipcegmajaaaDoor
open Go.RowKit
set_option linter.unusedVariables false
set_option linter.unusedSimpArgs false

def rgtB (W : Wd) : Bool := decide ((1 ≤ W.pr ∧ W.pr ≤ 3) ∧ (W.how = 1 ∨ W.how = 2 ∨ W.how = 3) ∧ (W.how ≠ 2 → W.nt = []) ∧ (W.how ≠ 3 → W.sp = []) ∧ Inc W.sp)
theorem rgt_iff (W : Wd) : rgtB W = true ↔ Wr W := by
  rw [rgtB, decide_eq_true_eq]
  exact ⟨fun ⟨h1, h2, h3, h4, h5⟩ => ⟨h2, h3, h4, h5, h1⟩, fun h => ⟨h.pr, h.how, h.nt, h.sp, h.inc⟩⟩
theorem len_nil {l : List Tx} : ((l.length : Int) == 0) = decide (l = []) := by
  cases l with
  | nil => rfl
  | cons a l => simp; omega
theorem emp_dec (x : Tx) : (sB x).toList.isEmpty = decide (x = []) := by
  by_cases h : x = []
  · rw [decide_eq_true h]; exact emp_iff.2 (sB_nil_iff.2 h)
  · rw [decide_eq_false h, Bool.eq_false_iff]
    exact fun q => h (sB_nil_iff.1 (emp_iff.1 q))
set_option maxRecDepth 8000 in
set_option maxHeartbeats 2000000 in
theorem right_p (W : Wd) (v : Value) (w : World) (h : WdV w v W) (hl : W.sp.length ≤ maxLen) : Calls Tryd.prog 11 #[v] w fun e w' => e = .returned (.bool (rgtB W)) ∧ Below w.heap.size w w' := by
  obtain ⟨sl, rfl, h⟩ := h
  obtain ⟨a, c, rfl, hc⟩ := h.len
  have hq := rises_p W.sp _ (w.alloc (.cells #[.int .i64 W.how, .string (sB W.nt), .slice a W.sp.length c, .int .i64 W.pr] 25)) (h.below (bel1 _ _)) hl
  have HQ : Hid _ := hq
  clear hq h
  have en := emp_dec W.nt
  have el := len_nil (l := W.sp)
  by_cases p1 : W.pr < 1
  · have ev : rgtB W = false := by unfold rgtB; exact decide_eq_false (by omega)
    rw [ev]
    go_enter Tryd.func11, Tryd.ntmps11
    go_wp2_with fail
    go_ret
    exact ⟨rfl, bel1 _ _⟩
  by_cases p3 : 3 < W.pr
  · have ev : rgtB W = false := by unfold rgtB; exact decide_eq_false (by omega)
    have d3 : decide (W.pr > 3) = true := decide_eq_true p3
    rw [ev]
    go_enter Tryd.func11, Tryd.ntmps11
    go_wp2_with fail
    go_ret
    exact ⟨rfl, bel1 _ _⟩
  have p3' : decide (W.pr > 3) = false := decide_eq_false p3
  by_cases h1 : W.how = 1
  · have ev : rgtB W = (decide (W.nt = []) && decide (W.sp = [])) := by
      unfold rgtB
      rw [Bool.eq_iff_iff, Bool.and_eq_true, decide_eq_true_eq, decide_eq_true_eq, decide_eq_true_eq]
      exact ⟨fun q => ⟨q.2.2.1 (by omega), q.2.2.2.1 (by omega)⟩, fun q => ⟨by omega, .inl h1, fun _ => q.1, fun _ => q.2, by rw [q.2]; exact inc_nil⟩⟩
    rw [ev]
    go_enter Tryd.func11, Tryd.ntmps11
    go_wp2_with fail
    all_goals
      go_ret
      exact ⟨by first | rfl | simp [*], bel1 _ _⟩
  have d1 : (W.how == 1) = false := by simpa using h1
  by_cases h2 : W.how = 2
  · have ev : rgtB W = decide (W.sp = []) := by
      unfold rgtB
      rw [decide_eq_decide]
      exact ⟨fun q => q.2.2.2.1 (by omega), fun q => ⟨by omega, .inr (.inl h2), fun e => absurd h2 e, fun _ => q, by rw [q]; exact inc_nil⟩⟩
    rw [ev]
    go_enter Tryd.func11, Tryd.ntmps11
    go_wp2_with fail
    all_goals
      go_ret
      exact ⟨by first | rfl | simp [*], bel1 _ _⟩
  have d2 : (W.how == 2) = false := by simpa using h2
  by_cases h3 : W.how = 3
  · have ev : rgtB W = (decide (W.nt = []) && decide (Inc W.sp)) := by
      unfold rgtB
      rw [Bool.eq_iff_iff, Bool.and_eq_true, decide_eq_true_eq, decide_eq_true_eq, decide_eq_true_eq]
      exact ⟨fun q => ⟨q.2.2.1 h2, q.2.2.2.2⟩, fun q => ⟨by omega, .inr (.inr h3), fun _ => q.1, fun e => absurd h3 e, q.2⟩⟩
    rw [ev]
    rw [h3] at HQ
    by_cases hn : W.nt = []
    · have en' : (sB W.nt).toList.isEmpty = true := by rw [en]; exact decide_eq_true hn
      have HN : Hid _ := hn
      clear en hn
      go_enter Tryd.func11, Tryd.ntmps11
      go_wp2_with (go_at_call 31; refine Calls.mono HQ.out ?_; rintro e w1 ⟨rfl, hb1⟩; have H1 : Hid _ := hb1; clear hb1)
      all_goals
        go_ret
        exact ⟨by rw [decide_eq_true HN.out]; rfl, (bel1 _ _).trans (H1.out.mono (by rw [sza]; omega))⟩
    · have en' : (sB W.nt).toList.isEmpty = false := by rw [en]; exact decide_eq_false hn
      have HN : Hid _ := hn
      clear en hn
      go_enter Tryd.func11, Tryd.ntmps11
      go_wp2_with fail
      all_goals
        go_ret
        exact ⟨by rw [decide_eq_false HN.out]; rfl, bel1 _ _⟩
  · have d3 : (W.how == 3) = false := by simpa using h3
    have ev : rgtB W = false := by unfold rgtB; exact decide_eq_false (by omega)
    rw [ev]
    go_enter Tryd.func11, Tryd.ntmps11
    go_wp2_with fail
    go_ret
    exact ⟨rfl, bel1 _ _⟩
end Go.Proofs.YtknfipcegmajaaaDoor
namespace Go.Proofs.YtknfipcegmajaaaDoor
open Go.RowKit
set_option linter.unusedVariables false
set_option linter.unusedSimpArgs false

theorem alw_len (W : Wd) : (alw W).l.length ≤ W.sp.length + 2 := by
  unfold alw
  split
  · simp
  · split
    · split <;> simp
    · split <;> simp
abbrev bxW (W : Wd) (sl : Value) : Obj := .cells #[.int .i64 W.how, .string (sB W.nt), sl, .int .i64 W.pr] 25
theorem SpV.form {w : World} {v : Value} {s : Sp} (h : SpV w v s) : ∃ a c, v = spV s (.slice a s.l.length c) := by
  obtain ⟨sl, rfl, h⟩ := h
  obtain ⟨a, c, rfl, _⟩ := h.len
  exact ⟨a, c, rfl⟩
set_option maxRecDepth 8000 in
set_option maxHeartbeats 2000000 in
theorem allows_p (W : Wd) (x : Tx) (v : Value) (w : World) (h : WdV w v W) (hi : Inc (alw W).l) (hl : W.sp.length < 5000) : Calls Tryd.prog 19 #[v, eS x] w fun e w' => e = .returned (.bool ((alw W).has x)) ∧ Below w.heap.size w w' := by
  obtain ⟨sl, rfl, h⟩ := h
  obtain ⟨a, c, rfl, hc⟩ := h.len
  have hb0 : Below w.heap.size w (w.alloc (bxW W (.slice a W.sp.length c))) := bel1 _ _
  have hq := allowed_p W (wdV W (.slice a W.sp.length c)) (w.alloc (bxW W (.slice a W.sp.length c))) ⟨_, rfl, h.below hb0⟩
  have hle := alw_len W
  have HQ : Hid _ := And.intro hq (And.intro hb0 (And.intro hi hle))
  clear hq h hb0 hi hle
  go_enter Tryd.func19, Tryd.ntmps19
  go_wp2_with fail
  refine Calls.mono HQ.out.1 ?_
  rintro e w1 ⟨v1, rfl, hs1, hb1⟩
  have hq2 := has_p (alw W) x v1 w1 hs1 HQ.out.2.2.1 (by have := HQ.out.2.2.2; omega)
  have H1 : Hid _ := And.intro hq2 (HQ.out.2.1.trans (hb1.mono HQ.out.2.1.size))
  clear hs1 hb1 hq2
  go_wp2_with fail
  refine Calls.mono H1.out.1 ?_
  rintro e w2 ⟨rfl, hb2⟩
  have H2 : Hid _ := H1.out.2.trans (hb2.mono H1.out.2.size)
  clear hb2
  go_wp2_with fail
  go_ret
  exact ⟨rfl, H2.out⟩
set_option maxRecDepth 8000 in
set_option maxHeartbeats 4000000 in
theorem sub_p (A B : Wd) (va vb : Value) (w : World) (ha : WdV w va A) (hb : WdV w vb B) (ia : Inc (alw A).l) (ib : Inc (alw B).l) (la : A.sp.length < 2000) (lb : B.sp.length < 2000) :
    Calls Tryd.prog 21 #[va, vb] w fun e w' => e = .returned (.bool (subP A B)) ∧ Below w.heap.size w w' := by
  obtain ⟨sa, rfl, ha⟩ := ha
  obtain ⟨pa, ca, rfl, ha2⟩ := ha.len
  obtain ⟨sb, rfl, hb⟩ := hb
  obtain ⟨pb, cb, rfl, hb2⟩ := hb.len
  have hxa : ((w.alloc (bxW A (.slice pa A.sp.length ca))).alloc (bxW B (.slice pb B.sp.length cb))).heap[w.heap.size]? = some (bxW A (.slice pa A.sp.length ca)) := nw_below (nw_heap _ _)
  have hxb : ((w.alloc (bxW A (.slice pa A.sp.length ca))).alloc (bxW B (.slice pb B.sp.length cb))).heap[w.heap.size + 1]? = some (bxW B (.slice pb B.sp.length cb)) := nw_at (sza _ _) _
  have hb0 : Below w.heap.size w ((w.alloc (bxW A (.slice pa A.sp.length ca))).alloc (bxW B (.slice pb B.sp.length cb))) := bel2 _ _ _
  have lla := alw_len A
  have llb := alw_len B
  have HX : Hid _ := And.intro hxa hxb
  have HR : Hid _ := And.intro (ha.below hb0) (And.intro (hb.below hb0) hb0)
  have HI : Hid _ := And.intro ia (And.intro ib (And.intro lla llb))
  clear hxa hxb hb0 ha hb ia ib lla llb
  go_enter Tryd.func21, Tryd.ntmps21
  go_upto_region 1 with fail
  have ezz : (w.alloc (bxW A (.slice pa A.sp.length ca))).heap.size = w.heap.size + 1 := sza _ _
  generalize ((w.alloc (bxW A (.slice pa A.sp.length ca))).alloc (bxW B (.slice pb B.sp.length cb))) = U at HX HR ⊢
  have HKP : Hid (∀ W, Below U.heap.size U W → W.heap[w.heap.size]? = some (bxW A (.slice pa A.sp.length ca)) ∧ W.heap[w.heap.size + 1]? = some (bxW B (.slice pb B.sp.length cb))) := fun W hW => ⟨(hW.block _ (lt_of HX.out.1)).trans HX.out.1, (hW.block _ (lt_of HX.out.2)).trans HX.out.2⟩
  have HB : Hid (Below U.heap.size U U.drew) := (Below.refl _ _).drew
  have HK8 : Hid (∀ W, Below U.heap.size U W → (W.cell? ⟨w.heap.size, 0, none⟩ = some (.int .i64 A.how) ∧ W.cell? ⟨w.heap.size, 1, none⟩ = some (.string (sB A.nt)) ∧ W.cell? ⟨w.heap.size, 2, none⟩ = some (.slice pa A.sp.length ca) ∧ W.cell? ⟨w.heap.size, 3, none⟩ = some (.int .i64 A.pr) ∧ W.cell? ⟨w.heap.size + 1, 0, none⟩ = some (.int .i64 B.how) ∧ W.cell? ⟨w.heap.size + 1, 1, none⟩ = some (.string (sB B.nt)) ∧ W.cell? ⟨w.heap.size + 1, 2, none⟩ = some (.slice pb B.sp.length cb) ∧ W.cell? ⟨w.heap.size + 1, 3, none⟩ = some (.int .i64 B.pr))) := fun W hW => by
    obtain ⟨h1, h2⟩ := HKP.out W hW
    exact ⟨cell_blk h1 rfl, cell_blk h1 rfl, cell_blk h1 rfl, cell_blk h1 rfl, cell_blk h2 rfl, cell_blk h2 rfl, cell_blk h2 rfl, cell_blk h2 rfl⟩
  obtain ⟨a0, a1, a2, a3, b0, b1, b2, b3⟩ := HK8.out U (Below.refl _ _)
  go_region_held3 (fun W => W.cell? ⟨w.heap.size, 0, none⟩ = some (.int .i64 A.how) ∧ W.cell? ⟨w.heap.size, 1, none⟩ = some (.string (sB A.nt)) ∧ W.cell? ⟨w.heap.size, 2, none⟩ = some (.slice pa A.sp.length ca) ∧ W.cell? ⟨w.heap.size, 3, none⟩ = some (.int .i64 A.pr) ∧ W.cell? ⟨w.heap.size + 1, 0, none⟩ = some (.int .i64 B.how) ∧ W.cell? ⟨w.heap.size + 1, 1, none⟩ = some (.string (sB B.nt)) ∧ W.cell? ⟨w.heap.size + 1, 2, none⟩ = some (.slice pb B.sp.length cb) ∧ W.cell? ⟨w.heap.size + 1, 3, none⟩ = some (.int .i64 B.pr)) (first | exact ⟨a0, a1, a2, a3, b0, b1, b2, b3⟩ | go_keep) (first
    | (go_at_call 34; have hq := allowed_p A (wdV A (.slice pa A.sp.length ca)) _ ⟨_, rfl, HR.out.1.below HB.out⟩; (with_reducible refine Calls.mono hq ?_); clear hq; rintro e w4 ⟨v4, rfl, hs4, hb4⟩; obtain ⟨x4, c4, rfl⟩ := hs4.form; have hbb := HB.out.trans (hb4.mono HB.out.size); clear HB a0 a1 a2 a3 b0 b1 b2 b3; obtain ⟨a0, a1, a2, a3, b0, b1, b2, b3⟩ := HK8.out _ hbb; have HB : Hid _ := hbb; have HSA : Hid (SpV _ _ (alw A)) := hs4; clear hbb hs4 hb4)
    | (go_at_call 34; have hq := allowed_p B (wdV B (.slice pb B.sp.length cb)) _ ⟨_, rfl, HR.out.2.1.below HB.out⟩; (with_reducible refine Calls.mono hq ?_); clear hq; rintro e w5 ⟨v5, rfl, hs5, hb5⟩; obtain ⟨x5, c5, rfl⟩ := hs5.form; have hbb := HB.out.trans (hb5.mono HB.out.size); clear HB a0 a1 a2 a3 b0 b1 b2 b3; obtain ⟨a0, a1, a2, a3, b0, b1, b2, b3⟩ := HK8.out _ hbb; have HB : Hid _ := hbb; have hsa := SpV.below HSA.out hb5; clear HSA; have HSA : Hid (SpV _ _ (alw A)) := hsa; have HSB : Hid (SpV _ _ (alw B)) := hs5; clear hbb hs5 hb5 hsa)
    | (go_at_call 36; have hq := not_p (alw B) _ _ HSB.out; (with_reducible refine Calls.mono hq ?_); clear hq; rintro e w6 ⟨v6, rfl, hs6, hb6⟩; obtain ⟨x6, c6, rfl⟩ := hs6.form; have hbb := HB.out.trans (hb6.mono HB.out.size); clear HB a0 a1 a2 a3 b0 b1 b2 b3; obtain ⟨a0, a1, a2, a3, b0, b1, b2, b3⟩ := HK8.out _ hbb; have HB : Hid _ := hbb; have hsa := SpV.below HSA.out hb6; clear HSA; have HSA : Hid (SpV _ _ (alw A)) := hsa; have HSN : Hid (SpV _ _ (alw B).not) := hs6; clear hbb hs6 hb6 hsa)
    | (go_at_call 33; have hq := both_p (alw A) (alw B).not _ _ _ HSA.out HSN.out HI.out.1 HI.out.2.1 (by have := HI.out.2.2.1; omega) (by have := HI.out.2.2.2; show (alw B).l.length < 5000; omega); (with_reducible refine Calls.mono hq ?_); clear hq; rintro e w7 ⟨v7, rfl, hs7, hb7⟩; obtain ⟨x7, c7, rfl⟩ := hs7.form; have hbb := HB.out.trans (hb7.mono HB.out.size); clear HB a0 a1 a2 a3 b0 b1 b2 b3; obtain ⟨a0, a1, a2, a3, b0, b1, b2, b3⟩ := HK8.out _ hbb; have HB : Hid _ := hbb; have HSC : Hid (SpV _ _ (bothS (alw A) (alw B).not)) := hs7; clear hbb hs7 hb7)
    | (go_at_call 38; have hq := empty_p (bothS (alw A) (alw B).not) _ _ HSC.out; (with_reducible refine Calls.mono hq ?_); clear hq; rintro e w8 ⟨rfl, hb8⟩; have hbb := HB.out.trans (hb8.mono HB.out.size); clear HB a0 a1 a2 a3 b0 b1 b2 b3; obtain ⟨a0, a1, a2, a3, b0, b1, b2, b3⟩ := HK8.out _ hbb; have HB : Hid _ := hbb; clear hbb hb8))
  all_goals
    go_wp2_with fail
    go_ret
    exact ⟨rfl, HR.out.2.2.trans (HB.out.mono HR.out.2.2.size)⟩
end Go.Proofs.YtknfipcegmajaaaDoor
namespace Go.Proofs.YtknfipcegmajaaaDoor
open Go.RowKit
set_option linter.unusedVariables false
set_option linter.unusedSimpArgs false

theorem WdV.form {w : World} {v : Value} {s : Wd} (h : WdV w v s) : ∃ a c, v = wdV s (.slice a s.sp.length c) := by
  obtain ⟨sl, rfl, h⟩ := h
  obtain ⟨a, c, rfl, _⟩ := h.len
  exact ⟨a, c, rfl⟩
theorem set4_heap {W : World} {X : Nat} {a b c d : Value} {t : TypeId} (x y z u : Value) (h : W.heap[X]? = some (.cells #[a, b, c, d] t (0, 0))) : ((((W.setCell ⟨X, 0, none⟩ x).setCell ⟨X, 1, none⟩ y).setCell ⟨X, 2, none⟩ z).setCell ⟨X, 3, none⟩ u).heap[X]? = some (.cells #[x, y, z, u] t (0, 0)) :=
  bset (bset (bset (bset h x) y) z) u
theorem blk4 {U : World} {X : Nat} {a b c d : Value} {t : TypeId} (hx : U.heap[X]? = some (.cells #[a, b, c, d] t (0, 0))) : (U.cell? ⟨X, 0, none⟩ = some a ∧ U.cell? ⟨X, 1, none⟩ = some b ∧ U.cell? ⟨X, 2, none⟩ = some c ∧ U.cell? ⟨X, 3, none⟩ = some d) ∧ U.frozen? ⟨X, 0, none⟩ = false ∧ U.frozen? ⟨X, 1, none⟩ = false ∧ U.frozen? ⟨X, 2, none⟩ = false ∧ U.frozen? ⟨X, 3, none⟩ = false := by
  refine ⟨⟨?_, ?_, ?_, ?_⟩, ?_, ?_, ?_, ?_⟩ <;> simp [World.cell?, World.frozen?, hx]
/-- Four cells written to a block that is not the row's. -/
theorem set4_tx {W : World} {X : Nat} {v : Value} {l : List Tx} (x y z u : Value) (h : TxR W v l) (hv : ∀ g o n c, v = .slice (some ⟨g, o, none⟩) n c → l ≠ [] → g ≠ X) : TxR ((((W.setCell ⟨X, 0, none⟩ x).setCell ⟨X, 1, none⟩ y).setCell ⟨X, 2, none⟩ z).setCell ⟨X, 3, none⟩ u) v l := by
  obtain ⟨a, cap, rfl, hc, h⟩ := h
  refine ⟨a, cap, rfl, hc, ?_⟩
  by_cases h0 : l = []
  · exact .inl h0
  · rcases h with h | ⟨g, off, rfl, hg, h⟩
    · exact absurd h h0
    · refine .inr ⟨g, off, rfl, by simpa [World.setCell] using hg, fun j hj => ?_⟩
      have hne := hv g off _ _ rfl h0
      have hh : ((((W.setCell ⟨X, 0, none⟩ x).setCell ⟨X, 1, none⟩ y).setCell ⟨X, 2, none⟩ z).setCell ⟨X, 3, none⟩ u).heap[g]? = W.heap[g]? := by
        rw [Below.heap_setCell _ _ _ _ (by exact hne), Below.heap_setCell _ _ _ _ (by exact hne), Below.heap_setCell _ _ _ _ (by exact hne), Below.heap_setCell _ _ _ _ (by exact hne)]
      rw [cell_of hh (h j hj)]
theorem set4_bel {w W : World} {X : Nat} (x y z u : Value) (h : Below w.heap.size w W) (hX : w.heap.size ≤ X) : Below w.heap.size w ((((W.setCell ⟨X, 0, none⟩ x).setCell ⟨X, 1, none⟩ y).setCell ⟨X, 2, none⟩ z).setCell ⟨X, 3, none⟩ u) :=
  (((h.setCell hX _).setCell hX _).setCell hX _).setCell hX _
/-- The result's cells written behind a call: its text is the empty one, or its row is. -/
theorem set4_res {W : World} {X : Nat} {v : Value} {l : List Tx} (x y z u : Value) (h : TxR W v l) (hX : W.heap[X]? = some (.cells #[.int .i64 0, .string ⟨#[]⟩, .slice none 0 0, .int .i64 0] 25 (0, 0))) (hy : l = [] ∨ y = .string ⟨#[]⟩) : TxR ((((W.setCell ⟨X, 0, none⟩ x).setCell ⟨X, 1, none⟩ y).setCell ⟨X, 2, none⟩ z).setCell ⟨X, 3, none⟩ u) v l := by
  obtain ⟨a, cap, rfl, hc, h⟩ := h
  refine ⟨a, cap, rfl, hc, ?_⟩
  by_cases h0 : l = []
  · exact .inl h0
  · rcases h with h | ⟨g, off, rfl, hg, h⟩
    · exact absurd h h0
    · refine .inr ⟨g, off, rfl, by simpa [World.setCell] using hg, fun j hj => ?_⟩
      by_cases hne : g = X
      · subst hne
        have hy' : y = .string ⟨#[]⟩ := hy.resolve_left h0
        have h1 := h j hj
        have h2 := set4_heap x y z u hX
        obtain ⟨k, hk⟩ : ∃ k, off + j = k := ⟨_, rfl⟩
        rw [hk] at h1 ⊢
        simp only [World.cell?, hX] at h1
        simp only [World.cell?, h2]
        rcases (by omega : k = 0 ∨ k = 1 ∨ k = 2 ∨ k = 3 ∨ 4 ≤ k) with rfl | rfl | rfl | rfl | hk4
        · simp at h1
        · rw [← h1, hy']; rfl
        · simp at h1
        · simp at h1
        · have : (#[.int .i64 0, .string ⟨#[]⟩, .slice none 0 0, .int .i64 0] : Array Value)[k]? = none := Array.getElem?_eq_none (by simpa using hk4)
          rw [this] at h1
          simp at h1
      · have hh : ((((W.setCell ⟨X, 0, none⟩ x).setCell ⟨X, 1, none⟩ y).setCell ⟨X, 2, none⟩ z).setCell ⟨X, 3, none⟩ u).heap[g]? = W.heap[g]? := by
          rw [Below.heap_setCell _ _ _ _ (by exact hne), Below.heap_setCell _ _ _ _ (by exact hne), Below.heap_setCell _ _ _ _ (by exact hne), Below.heap_setCell _ _ _ _ (by exact hne)]
        rw [cell_of hh (h j hj)]
theorem said_nt (s : Sp) (p : Int) : (saidS s p).1.sp = [] ∨ (saidS s p).1.nt = [] := by
  unfold saidS
  split
  · exact .inr rfl
  · split
    · exact .inr rfl
    · split
      · exact .inl rfl
      · exact .inr rfl
theorem sB_or {s : Sp} {p : Int} : (saidS s p).1.sp = [] ∨ Value.string (sB (saidS s p).1.nt) = .string ⟨#[]⟩ := (said_nt s p).imp id fun h => by rw [h, sB_nil]
theorem WdV.row {w : World} {W : Wd} {sl : Value} (h : WdV w (wdV W sl) W) : TxR w sl W.sp := by
  obtain ⟨sl', e, h⟩ := h
  have : sl = sl' := by
    simp only [Value.agg.injEq, Array.mk.injEq, List.cons.injEq] at e
    exact e.2.2.1
  subst this
  exact h
def WbQ (r : Wd × Bool) (w : World) (e : Ending) (w' : World) : Prop := ∃ v', e = .returned (.tuple #[v', .bool r.2]) ∧ WdV w' v' r.1 ∧ Below w.heap.size w w'
theorem said_p (s : Sp) (p : Int) (v : Value) (w : World) (h : SpV w v s) (hl : s.l.length < 100000) : Calls Tryd.prog 32 #[v, .int .i64 p] w fun e w' => WbQ (saidS s p) w e w' := by
  cases hs : s.l with
  | nil => exact said_nil s p v w h hs
  | cons x l => exact said_cons s p v w h hl x l hs
theorem both_len {a b : Sp} {m n : Nat} (h1 : a.l.length ≤ m + 2) (h2 : b.l.length ≤ n + 2) (hm : m < 1000) (hn : n < 1000) : (bothS a b).l.length < 100000 := by
  unfold bothS
  split
  · have := chosen_len a.l b
    show (chosen a.l b).length < 100000
    omega
  · split
    · have := chosen_len b.l a
      show (chosen b.l a).length < 100000
      omega
    · have := rs_len (a.l ++ b.l)
      show (rs (a.l ++ b.l)).length < 100000
      rw [List.length_append] at this
      omega
set_option maxRecDepth 8000 in
set_option maxHeartbeats 4000000 in
theorem bothW_p (A B : Wd) (va vb : Value) (w : World) (ha : WdV w va A) (hb : WdV w vb B) (ia : Inc (alw A).l) (ib : Inc (alw B).l) (la : A.sp.length < 1000) (lb : B.sp.length < 1000) :
    Calls Tryd.prog 15 #[va, vb] w fun e w' => WbQ (bothP A B) w e w' := by
  obtain ⟨sa, rfl, ha⟩ := ha
  obtain ⟨pa, ca, rfl, ha2⟩ := ha.len
  obtain ⟨sb, rfl, hb⟩ := hb
  obtain ⟨pb, cb, rfl, hb2⟩ := hb.len
  have hxa : (((w.alloc (bxW A (.slice pa A.sp.length ca))).alloc (bxW B (.slice pb B.sp.length cb))).alloc (bxW Wd.zero (.slice none 0 0))).heap[w.heap.size]? = some (bxW A (.slice pa A.sp.length ca)) := nw_below (nw_below (nw_heap _ _))
  have hxb : (((w.alloc (bxW A (.slice pa A.sp.length ca))).alloc (bxW B (.slice pb B.sp.length cb))).alloc (bxW Wd.zero (.slice none 0 0))).heap[w.heap.size + 1]? = some (bxW B (.slice pb B.sp.length cb)) := nw_below (nw_at (sza _ _) _)
  have hxr : (((w.alloc (bxW A (.slice pa A.sp.length ca))).alloc (bxW B (.slice pb B.sp.length cb))).alloc (bxW Wd.zero (.slice none 0 0))).heap[w.heap.size + 1 + 1]? = some (.cells #[.int .i64 0, .string ⟨#[]⟩, .slice none 0 0, .int .i64 0] 25) := nw_at (sza2 _ _ _) _
  have hb0 : Below w.heap.size w (((w.alloc (bxW A (.slice pa A.sp.length ca))).alloc (bxW B (.slice pb B.sp.length cb))).alloc (bxW Wd.zero (.slice none 0 0))) := bel3 _ _ _ _
  have lla := alw_len A
  have llb := alw_len B
  have HX : Hid _ := And.intro hxa (And.intro hxb hxr)
  have HR : Hid _ := And.intro (ha.below hb0) (And.intro (hb.below hb0) hb0)
  have HI : Hid _ := And.intro ia (And.intro ib (And.intro lla llb))
  clear hxa hxb hxr hb0 ha hb ia ib lla llb
  go_enter Tryd.func15, Tryd.ntmps15
  go_upto_region 1 with fail
  have eU : ((w.alloc (bxW A (.slice pa A.sp.length ca))).alloc (bxW B (.slice pb B.sp.length cb))).alloc (bxW Wd.zero (.slice none 0 0)) = ((w.alloc (.cells #[.int .i64 A.how, .string (sB A.nt), .slice pa A.sp.length ca, .int .i64 A.pr] 25)).alloc (.cells #[.int .i64 B.how, .string (sB B.nt), .slice pb B.sp.length cb, .int .i64 B.pr] 25)).alloc (.cells #[.int .i64 0, .string ⟨#[]⟩, .slice none 0 0, .int .i64 0] 25) := rfl
  rw [eU] at HX HR
  clear eU
  generalize (((w.alloc (.cells #[.int .i64 A.how, .string (sB A.nt), .slice pa A.sp.length ca, .int .i64 A.pr] 25)).alloc (.cells #[.int .i64 B.how, .string (sB B.nt), .slice pb B.sp.length cb, .int .i64 B.pr] 25)).alloc (.cells #[.int .i64 0, .string ⟨#[]⟩, .slice none 0 0, .int .i64 0] 25)) = U at HX HR ⊢
  have HK : Hid (∀ W, Below U.heap.size U W → (W.cell? ⟨w.heap.size, 0, none⟩ = some (.int .i64 A.how) ∧ W.cell? ⟨w.heap.size, 1, none⟩ = some (.string (sB A.nt)) ∧ W.cell? ⟨w.heap.size, 2, none⟩ = some (.slice pa A.sp.length ca) ∧ W.cell? ⟨w.heap.size, 3, none⟩ = some (.int .i64 A.pr) ∧ W.cell? ⟨w.heap.size + 1, 0, none⟩ = some (.int .i64 B.how) ∧ W.cell? ⟨w.heap.size + 1, 1, none⟩ = some (.string (sB B.nt)) ∧ W.cell? ⟨w.heap.size + 1, 2, none⟩ = some (.slice pb B.sp.length cb) ∧ W.cell? ⟨w.heap.size + 1, 3, none⟩ = some (.int .i64 B.pr) ∧ W.cell? ⟨w.heap.size + 1 + 1, 0, none⟩ = some (.int .i64 0) ∧ W.cell? ⟨w.heap.size + 1 + 1, 1, none⟩ = some (.string ⟨#[]⟩) ∧ W.cell? ⟨w.heap.size + 1 + 1, 2, none⟩ = some (.slice none 0 0) ∧ W.cell? ⟨w.heap.size + 1 + 1, 3, none⟩ = some (.int .i64 0) ∧ W.frozen? ⟨w.heap.size + 1 + 1, 0, none⟩ = false ∧ W.frozen? ⟨w.heap.size + 1 + 1, 1, none⟩ = false ∧ W.frozen? ⟨w.heap.size + 1 + 1, 2, none⟩ = false ∧ W.frozen? ⟨w.heap.size + 1 + 1, 3, none⟩ = false)) := fun W hW => by
    have h1 := (hW.block _ (lt_of HX.out.1)).trans HX.out.1
    have h2 := (hW.block _ (lt_of HX.out.2.1)).trans HX.out.2.1
    have h3 := (hW.block _ (lt_of HX.out.2.2)).trans HX.out.2.2
    obtain ⟨⟨c0, c1, c2, c3⟩, f0, f1, f2, f3⟩ := blk4 h3
    exact ⟨cell_blk h1 rfl, cell_blk h1 rfl, cell_blk h1 rfl, cell_blk h1 rfl, cell_blk h2 rfl, cell_blk h2 rfl, cell_blk h2 rfl, cell_blk h2 rfl, c0, c1, c2, c3, f0, f1, f2, f3⟩
  have HB : Hid (Below U.heap.size U U.drew) := (Below.refl _ _).drew
  obtain ⟨a0, a1, a2, a3, b0, b1, b2, b3, c0, c1, c2, c3, f0, f1, f2, f3⟩ := HK.out U (Below.refl _ _)
  have n1 : ¬ w.heap.size = w.heap.size + 1 + 1 := by omega
  have n2 : ¬ w.heap.size + 1 + 1 = w.heap.size := by omega
  go_region_held3 (fun W => W.cell? ⟨w.heap.size, 0, none⟩ = some (.int .i64 A.how) ∧ W.cell? ⟨w.heap.size, 1, none⟩ = some (.string (sB A.nt)) ∧ W.cell? ⟨w.heap.size, 2, none⟩ = some (.slice pa A.sp.length ca) ∧ W.cell? ⟨w.heap.size, 3, none⟩ = some (.int .i64 A.pr) ∧ W.cell? ⟨w.heap.size + 1, 0, none⟩ = some (.int .i64 B.how) ∧ W.cell? ⟨w.heap.size + 1, 1, none⟩ = some (.string (sB B.nt)) ∧ W.cell? ⟨w.heap.size + 1, 2, none⟩ = some (.slice pb B.sp.length cb) ∧ W.cell? ⟨w.heap.size + 1, 3, none⟩ = some (.int .i64 B.pr)) (first | exact ⟨a0, a1, a2, a3, b0, b1, b2, b3⟩ | go_keep) (first
    | (go_at_call 34; have hq := allowed_p A (wdV A (.slice pa A.sp.length ca)) _ ⟨_, rfl, HR.out.1.below HB.out⟩; (with_reducible refine Calls.mono hq ?_); clear hq; rintro e w4 ⟨v4, rfl, hs4, hb4⟩; obtain ⟨x4, c4', rfl⟩ := hs4.form; have hbb := HB.out.trans (hb4.mono HB.out.size); clear HB a0 a1 a2 a3 b0 b1 b2 b3 c0 c1 c2 c3 f0 f1 f2 f3; obtain ⟨a0, a1, a2, a3, b0, b1, b2, b3, c0, c1, c2, c3, f0, f1, f2, f3⟩ := HK.out _ hbb; have HB : Hid _ := hbb; have HSA : Hid (SpV _ _ (alw A)) := hs4; clear hbb hb4 hs4)
    | (go_at_call 34; have hq := allowed_p B (wdV B (.slice pb B.sp.length cb)) _ ⟨_, rfl, HR.out.2.1.below HB.out⟩; (with_reducible refine Calls.mono hq ?_); clear hq; rintro e w5 ⟨v5, rfl, hs5, hb5⟩; obtain ⟨x5, c5', rfl⟩ := hs5.form; have hbb := HB.out.trans (hb5.mono HB.out.size); clear HB a0 a1 a2 a3 b0 b1 b2 b3 c0 c1 c2 c3 f0 f1 f2 f3; obtain ⟨a0, a1, a2, a3, b0, b1, b2, b3, c0, c1, c2, c3, f0, f1, f2, f3⟩ := HK.out _ hbb; have HB : Hid _ := hbb; have hk' := SpV.below HSA.out hb5; clear HSA; have HSA : Hid (SpV _ _ (alw A)) := hk'; clear hk'; have HSB : Hid (SpV _ _ (alw B)) := hs5; clear hbb hb5 hs5)
    | (go_at_call 33; have hq := both_p (alw A) (alw B) _ _ _ HSA.out HSB.out HI.out.1 HI.out.2.1 (by have := HI.out.2.2.1; omega) (by have := HI.out.2.2.2; omega); (with_reducible refine Calls.mono hq ?_); clear hq; rintro e w7 ⟨v7, rfl, hs7, hb7⟩; obtain ⟨x7, c7', rfl⟩ := hs7.form; have hbb := HB.out.trans (hb7.mono HB.out.size); clear HB a0 a1 a2 a3 b0 b1 b2 b3 c0 c1 c2 c3 f0 f1 f2 f3; obtain ⟨a0, a1, a2, a3, b0, b1, b2, b3, c0, c1, c2, c3, f0, f1, f2, f3⟩ := HK.out _ hbb; have HB : Hid _ := hbb; have HSC : Hid (SpV _ _ (bothS (alw A) (alw B))) := hs7; clear hbb hb7 hs7)
    | (go_at_call 32; have hq := said_p (bothS (alw A) (alw B)) A.pr _ _ HSC.out (both_len HI.out.2.2.1 HI.out.2.2.2 la lb); (with_reducible refine Calls.mono hq ?_); clear hq; rintro e w8 ⟨v8, rfl, hs8, hb8⟩; obtain ⟨x8, c8', rfl⟩ := hs8.form; have hbb := HB.out.trans (hb8.mono HB.out.size); clear HB a0 a1 a2 a3 b0 b1 b2 b3 c0 c1 c2 c3 f0 f1 f2 f3; obtain ⟨a0, a1, a2, a3, b0, b1, b2, b3, c0, c1, c2, c3, f0, f1, f2, f3⟩ := HK.out _ hbb; have HB : Hid _ := hbb; have HSD : Hid (WdV _ _ (bothP A B).1) := hs8; clear hbb hb8 hs8))
  all_goals
    have hx8 := (HB.out.block _ (lt_of HX.out.2.2)).trans HX.out.2.2
    have hbw := HR.out.2.2.trans (HB.out.mono HR.out.2.2.size)
    have hrow := WdV.row HSD.out
    have HE : Hid _ := And.intro hx8 (And.intro hbw hrow)
    clear hx8 hbw hrow HB HSD HSC HSA HSB HK a0 a1 a2 a3 b0 b1 b2 b3 c0 c1 c2 c3 f0 f1 f2 f3
    go_wp2_with fail
    refine ret_w2 (X := w.heap.size + 1 + 1) Tryd.results15 rfl rfl ⟨_, set4_heap _ _ _ _ HE.out.1, rfl, ?_⟩
    exact ⟨_, rfl, ⟨_, rfl, set4_res _ _ _ _ HE.out.2.2 HE.out.1 sB_or⟩, set4_bel _ _ _ _ HE.out.2.1 (by omega)⟩
end Go.Proofs.YtknfipcegmajaaaDoor
namespace Go.Proofs.YtknfipcegmajaaaDoor
open Go.RowKit
set_option linter.unusedVariables false
set_option linter.unusedSimpArgs false

abbrev oSp : Obj := .cells #[.bool false, .slice none 0 0] 56
theorem neY {a b Y : Nat} (h : b ≤ Y) (hx : a + 1 + 1 < b) : ¬ a = Y ∧ ¬ Y = a ∧ ¬ a + 1 = Y ∧ ¬ Y = a + 1 ∧ ¬ a + 1 + 1 = Y ∧ ¬ Y = a + 1 + 1 := by omega
theorem bel_blk' {w w' : World} {o : Obj} (hb : Below (w.alloc o).heap.size (w.alloc o) w') : Below w.heap.size w w' := (bel1 w o).trans (hb.mono (by rw [sza]; omega))
theorem gen_world {G F : World → Prop} {w : World} (hF : F w) (h : ∀ V, F V → G V) : G w := h w hF
/-- What region 1 of Union leaves: the set in a variable of its own. -/
def UnF (U : World) (Y : Nat) (s : Sp) (sl : Value) (V : World) : Prop := V.heap[Y]? = some (.cells #[.bool s.o, sl] 56 (0, 0)) ∧ TxR V sl s.l ∧ Below U.heap.size U V ∧ U.heap.size ≤ Y
theorem SpV.row {w : World} {s : Sp} {sl : Value} (h : SpV w (spV s sl) s) : TxR w sl s.l := by
  obtain ⟨sl', e, h⟩ := h
  have : sl = sl' := by
    simp only [Value.agg.injEq, Array.mk.injEq, List.cons.injEq] at e
    exact e.2.1
  subst this
  exact h
theorem un_set {U W : World} {Y : Nat} {s : Sp} {sl : Value} (hY : W.heap[Y]? = some oSp) (hl : U.heap.size ≤ Y) (hB : Below U.heap.size U W) (ht : TxR W sl s.l) : UnF U Y s sl ((W.setCell ⟨Y, 0, none⟩ (.bool s.o)).setCell ⟨Y, 1, none⟩ sl) :=
  ⟨set2_heap _ _ hY, (bt_end (N := 0) hB hY hl ht (tx_ne ht hY (sp_ne _ _ (fun x e => by cases e)))).1, (hB.setCell hl _).setCell hl _, hl⟩
theorem un_new {U W : World} {s : Sp} {sl : Value} (hB : Below U.heap.size U W) (ht : TxR W sl s.l) : UnF U W.heap.size s sl (W.alloc (.cells #[.bool s.o, sl] 56)) :=
  ⟨nw_heap _ _, ht.below (bel1 _ _), hB.alloc hB.size _, hB.size⟩
set_option maxRecDepth 8000 in
set_option maxHeartbeats 4000000 in
theorem unionW_p (A B : Wd) (va vb : Value) (w : World) (ha : WdV w va A) (hb : WdV w vb B) (ia : Inc (alw A).l) (ib : Inc (alw B).l) (la : A.sp.length < 1000) (lb : B.sp.length < 1000) :
    Calls Tryd.prog 17 #[va, vb] w fun e w' => WbQ (unionP A B) w e w' := by
  obtain ⟨sa, rfl, ha⟩ := ha
  obtain ⟨pa, ca, rfl, ha2⟩ := ha.len
  obtain ⟨sb, rfl, hb⟩ := hb
  obtain ⟨pb, cb, rfl, hb2⟩ := hb.len
  have hxa : (((w.alloc (bxW A (.slice pa A.sp.length ca))).alloc (bxW B (.slice pb B.sp.length cb))).alloc (bxW Wd.zero (.slice none 0 0))).heap[w.heap.size]? = some (bxW A (.slice pa A.sp.length ca)) := nw_below (nw_below (nw_heap _ _))
  have hxb : (((w.alloc (bxW A (.slice pa A.sp.length ca))).alloc (bxW B (.slice pb B.sp.length cb))).alloc (bxW Wd.zero (.slice none 0 0))).heap[w.heap.size + 1]? = some (bxW B (.slice pb B.sp.length cb)) := nw_below (nw_at (sza _ _) _)
  have hxr : (((w.alloc (bxW A (.slice pa A.sp.length ca))).alloc (bxW B (.slice pb B.sp.length cb))).alloc (bxW Wd.zero (.slice none 0 0))).heap[w.heap.size + 1 + 1]? = some (.cells #[.int .i64 0, .string ⟨#[]⟩, .slice none 0 0, .int .i64 0] 25) := nw_at (sza2 _ _ _) _
  have hb0 : Below w.heap.size w (((w.alloc (bxW A (.slice pa A.sp.length ca))).alloc (bxW B (.slice pb B.sp.length cb))).alloc (bxW Wd.zero (.slice none 0 0))) := bel3 _ _ _ _
  have lla := alw_len A
  have llb := alw_len B
  have HX : Hid _ := And.intro hxa (And.intro hxb hxr)
  have HR : Hid _ := And.intro (ha.below hb0) (And.intro (hb.below hb0) hb0)
  have HI : Hid _ := And.intro ia (And.intro ib (And.intro lla llb))
  clear hxa hxb hxr hb0 ha hb ia ib lla llb
  go_enter Tryd.func17, Tryd.ntmps17
  go_upto_region 1 with fail
  have eU : ((w.alloc (bxW A (.slice pa A.sp.length ca))).alloc (bxW B (.slice pb B.sp.length cb))).alloc (bxW Wd.zero (.slice none 0 0)) = ((w.alloc (.cells #[.int .i64 A.how, .string (sB A.nt), .slice pa A.sp.length ca, .int .i64 A.pr] 25)).alloc (.cells #[.int .i64 B.how, .string (sB B.nt), .slice pb B.sp.length cb, .int .i64 B.pr] 25)).alloc (.cells #[.int .i64 0, .string ⟨#[]⟩, .slice none 0 0, .int .i64 0] 25) := rfl
  rw [eU] at HX HR
  clear eU
  generalize (((w.alloc (.cells #[.int .i64 A.how, .string (sB A.nt), .slice pa A.sp.length ca, .int .i64 A.pr] 25)).alloc (.cells #[.int .i64 B.how, .string (sB B.nt), .slice pb B.sp.length cb, .int .i64 B.pr] 25)).alloc (.cells #[.int .i64 0, .string ⟨#[]⟩, .slice none 0 0, .int .i64 0] 25)) = U at HX HR ⊢
  have HK : Hid (∀ W, Below U.heap.size U W → (W.cell? ⟨w.heap.size, 0, none⟩ = some (.int .i64 A.how) ∧ W.cell? ⟨w.heap.size, 1, none⟩ = some (.string (sB A.nt)) ∧ W.cell? ⟨w.heap.size, 2, none⟩ = some (.slice pa A.sp.length ca) ∧ W.cell? ⟨w.heap.size, 3, none⟩ = some (.int .i64 A.pr) ∧ W.cell? ⟨w.heap.size + 1, 0, none⟩ = some (.int .i64 B.how) ∧ W.cell? ⟨w.heap.size + 1, 1, none⟩ = some (.string (sB B.nt)) ∧ W.cell? ⟨w.heap.size + 1, 2, none⟩ = some (.slice pb B.sp.length cb) ∧ W.cell? ⟨w.heap.size + 1, 3, none⟩ = some (.int .i64 B.pr) ∧ W.cell? ⟨w.heap.size + 1 + 1, 0, none⟩ = some (.int .i64 0) ∧ W.cell? ⟨w.heap.size + 1 + 1, 1, none⟩ = some (.string ⟨#[]⟩) ∧ W.cell? ⟨w.heap.size + 1 + 1, 2, none⟩ = some (.slice none 0 0) ∧ W.cell? ⟨w.heap.size + 1 + 1, 3, none⟩ = some (.int .i64 0) ∧ W.frozen? ⟨w.heap.size + 1 + 1, 0, none⟩ = false ∧ W.frozen? ⟨w.heap.size + 1 + 1, 1, none⟩ = false ∧ W.frozen? ⟨w.heap.size + 1 + 1, 2, none⟩ = false ∧ W.frozen? ⟨w.heap.size + 1 + 1, 3, none⟩ = false)) := fun W hW => by
    have h1 := (hW.block _ (lt_of HX.out.1)).trans HX.out.1
    have h2 := (hW.block _ (lt_of HX.out.2.1)).trans HX.out.2.1
    have h3 := (hW.block _ (lt_of HX.out.2.2)).trans HX.out.2.2
    obtain ⟨⟨c0, c1, c2, c3⟩, f0, f1, f2, f3⟩ := blk4 h3
    exact ⟨cell_blk h1 rfl, cell_blk h1 rfl, cell_blk h1 rfl, cell_blk h1 rfl, cell_blk h2 rfl, cell_blk h2 rfl, cell_blk h2 rfl, cell_blk h2 rfl, c0, c1, c2, c3, f0, f1, f2, f3⟩
  have HB : Hid (Below U.heap.size U U.drew) := (Below.refl _ _).drew
  obtain ⟨a0, a1, a2, a3, b0, b1, b2, b3, c0, c1, c2, c3, f0, f1, f2, f3⟩ := HK.out U (Below.refl _ _)
  have n1 : ¬ w.heap.size = w.heap.size + 1 + 1 := by omega
  have n2 : ¬ w.heap.size + 1 + 1 = w.heap.size := by omega
  go_region_held3 (fun W => W.cell? ⟨w.heap.size, 0, none⟩ = some (.int .i64 A.how) ∧ W.cell? ⟨w.heap.size, 1, none⟩ = some (.string (sB A.nt)) ∧ W.cell? ⟨w.heap.size, 2, none⟩ = some (.slice pa A.sp.length ca) ∧ W.cell? ⟨w.heap.size, 3, none⟩ = some (.int .i64 A.pr) ∧ W.cell? ⟨w.heap.size + 1, 0, none⟩ = some (.int .i64 B.how) ∧ W.cell? ⟨w.heap.size + 1, 1, none⟩ = some (.string (sB B.nt)) ∧ W.cell? ⟨w.heap.size + 1, 2, none⟩ = some (.slice pb B.sp.length cb) ∧ W.cell? ⟨w.heap.size + 1, 3, none⟩ = some (.int .i64 B.pr)) (first | exact ⟨a0, a1, a2, a3, b0, b1, b2, b3⟩ | go_keep) (first
    | (go_at_call 34; have hq := allowed_p A (wdV A (.slice pa A.sp.length ca)) _ ⟨_, rfl, HR.out.1.below HB.out⟩; (with_reducible refine Calls.mono hq ?_); clear hq; rintro e w4 ⟨v4, rfl, hs4, hb4⟩; obtain ⟨x4, c4', rfl⟩ := hs4.form; have hbb := HB.out.trans (hb4.mono HB.out.size); (try (have hy' := (hb4.block _ (lt_of HY.out.1)).trans HY.out.1; have hl' := HY.out.2; clear HY y0 y1 g0 g1; have HY : Hid _ := And.intro hy' hl'; obtain ⟨⟨y0, y1⟩, g0, g1⟩ := blk2 hy'; clear hy' hl')); clear HB a0 a1 a2 a3 b0 b1 b2 b3 c0 c1 c2 c3 f0 f1 f2 f3; obtain ⟨a0, a1, a2, a3, b0, b1, b2, b3, c0, c1, c2, c3, f0, f1, f2, f3⟩ := HK.out _ hbb; have HB : Hid _ := hbb; have HSA : Hid (SpV _ _ (alw A)) := hs4; clear hbb hb4 hs4)
    | (go_at_call 36; have hq := not_p (alw A) _ _ HSA.out; (with_reducible refine Calls.mono hq ?_); clear hq; rintro e w9 ⟨v9, rfl, hs9, hb9⟩; obtain ⟨x9, c9', rfl⟩ := hs9.form; have hbb := HB.out.trans (hb9.mono HB.out.size); (try (have hy' := (hb9.block _ (lt_of HY.out.1)).trans HY.out.1; have hl' := HY.out.2; clear HY y0 y1 g0 g1; have HY : Hid _ := And.intro hy' hl'; obtain ⟨⟨y0, y1⟩, g0, g1⟩ := blk2 hy'; clear hy' hl')); clear HB a0 a1 a2 a3 b0 b1 b2 b3 c0 c1 c2 c3 f0 f1 f2 f3; obtain ⟨a0, a1, a2, a3, b0, b1, b2, b3, c0, c1, c2, c3, f0, f1, f2, f3⟩ := HK.out _ hbb; have HB : Hid _ := hbb; have HNA : Hid (SpV _ _ (alw A).not) := hs9; clear hbb hb9 hs9)
    | (go_at_call 34; have hq := allowed_p B (wdV B (.slice pb B.sp.length cb)) _ ⟨_, rfl, HR.out.2.1.below HB.out⟩; (with_reducible refine Calls.mono hq ?_); clear hq; rintro e w5 ⟨v5, rfl, hs5, hb5⟩; obtain ⟨x5, c5', rfl⟩ := hs5.form; have hbb := HB.out.trans (hb5.mono HB.out.size); (try (have hy' := (hb5.block _ (lt_of HY.out.1)).trans HY.out.1; have hl' := HY.out.2; clear HY y0 y1 g0 g1; have HY : Hid _ := And.intro hy' hl'; obtain ⟨⟨y0, y1⟩, g0, g1⟩ := blk2 hy'; clear hy' hl')); clear HB a0 a1 a2 a3 b0 b1 b2 b3 c0 c1 c2 c3 f0 f1 f2 f3; obtain ⟨a0, a1, a2, a3, b0, b1, b2, b3, c0, c1, c2, c3, f0, f1, f2, f3⟩ := HK.out _ hbb; have HB : Hid _ := hbb; have hk' := SpV.below HNA.out hb5; clear HNA; have HNA : Hid (SpV _ _ (alw A).not) := hk'; clear hk'; have HSB : Hid (SpV _ _ (alw B)) := hs5; clear hbb hb5 hs5)
    | (go_at_call 36; have hq := not_p (alw B) _ _ HSB.out; (with_reducible refine Calls.mono hq ?_); clear hq; rintro e w6 ⟨v6, rfl, hs6, hb6⟩; obtain ⟨x6, c6', rfl⟩ := hs6.form; have hbb := HB.out.trans (hb6.mono HB.out.size); (try (have hy' := (hb6.block _ (lt_of HY.out.1)).trans HY.out.1; have hl' := HY.out.2; clear HY y0 y1 g0 g1; have HY : Hid _ := And.intro hy' hl'; obtain ⟨⟨y0, y1⟩, g0, g1⟩ := blk2 hy'; clear hy' hl')); clear HB a0 a1 a2 a3 b0 b1 b2 b3 c0 c1 c2 c3 f0 f1 f2 f3; obtain ⟨a0, a1, a2, a3, b0, b1, b2, b3, c0, c1, c2, c3, f0, f1, f2, f3⟩ := HK.out _ hbb; have HB : Hid _ := hbb; have hk' := SpV.below HNA.out hb6; clear HNA; have HNA : Hid (SpV _ _ (alw A).not) := hk'; clear hk'; have HNB : Hid (SpV _ _ (alw B).not) := hs6; clear hbb hb6 hs6)
    | (go_at_call 33; have hq := both_p (alw A).not (alw B).not _ _ _ HNA.out HNB.out HI.out.1 HI.out.2.1 (by have := HI.out.2.2.1; show (alw A).l.length < 5000; omega) (by have := HI.out.2.2.2; show (alw B).l.length < 5000; omega); (with_reducible refine Calls.mono hq ?_); clear hq; rintro e w7 ⟨v7, rfl, hs7, hb7⟩; obtain ⟨x7, c7', rfl⟩ := hs7.form; have hbb := HB.out.trans (hb7.mono HB.out.size); (try (have hy' := (hb7.block _ (lt_of HY.out.1)).trans HY.out.1; have hl' := HY.out.2; clear HY y0 y1 g0 g1; have HY : Hid _ := And.intro hy' hl'; obtain ⟨⟨y0, y1⟩, g0, g1⟩ := blk2 hy'; clear hy' hl')); clear HB a0 a1 a2 a3 b0 b1 b2 b3 c0 c1 c2 c3 f0 f1 f2 f3; obtain ⟨a0, a1, a2, a3, b0, b1, b2, b3, c0, c1, c2, c3, f0, f1, f2, f3⟩ := HK.out _ hbb; have HB : Hid _ := hbb; have HSC : Hid (SpV _ _ (bothS (alw A).not (alw B).not)) := hs7; clear hbb hb7 hs7)
    | (go_at_call 34; have hq := allowed_p A (wdV A (.slice pa A.sp.length ca)) _ ⟨_, rfl, HR.out.1.below (HB.out.alloc HB.out.size oSp)⟩; (with_reducible refine Calls.mono hq ?_); clear hq; rintro e w4 ⟨v4, rfl, hs4, hb4⟩; obtain ⟨x4, c4', rfl⟩ := hs4.form; have hyy := bel_blk hb4; have hyl := HB.out.size; have hb4a := bel_blk' hb4; clear hb4; have hb4 := hb4a; clear hb4a; have hbb := HB.out.trans (hb4.mono HB.out.size); have HY : Hid _ := And.intro hyy hyl; obtain ⟨⟨y0, y1⟩, g0, g1⟩ := blk2 hyy; obtain ⟨q1, q2, q3, q4, q5, q6⟩ := neY hyl (lt_of HX.out.2.2); clear hyy hyl; clear HB a0 a1 a2 a3 b0 b1 b2 b3 c0 c1 c2 c3 f0 f1 f2 f3; obtain ⟨a0, a1, a2, a3, b0, b1, b2, b3, c0, c1, c2, c3, f0, f1, f2, f3⟩ := HK.out _ hbb; have HB : Hid _ := hbb; have HSA : Hid (SpV _ _ (alw A)) := hs4; clear hbb hb4 hs4)
    | (go_at_call 36; have hq := not_p (alw A) _ _ (SpV.below HSA.out (bel1 _ oSp)); (with_reducible refine Calls.mono hq ?_); clear hq; rintro e w9 ⟨v9, rfl, hs9, hb9⟩; obtain ⟨x9, c9', rfl⟩ := hs9.form; have hyy := bel_blk hb9; have hyl := HB.out.size; have hb9a := bel_blk' hb9; clear hb9; have hb9 := hb9a; clear hb9a; have hbb := HB.out.trans (hb9.mono HB.out.size); have HY : Hid _ := And.intro hyy hyl; obtain ⟨⟨y0, y1⟩, g0, g1⟩ := blk2 hyy; obtain ⟨q1, q2, q3, q4, q5, q6⟩ := neY hyl (lt_of HX.out.2.2); clear hyy hyl; clear HB a0 a1 a2 a3 b0 b1 b2 b3 c0 c1 c2 c3 f0 f1 f2 f3; obtain ⟨a0, a1, a2, a3, b0, b1, b2, b3, c0, c1, c2, c3, f0, f1, f2, f3⟩ := HK.out _ hbb; have HB : Hid _ := hbb; have HNA : Hid (SpV _ _ (alw A).not) := hs9; clear hbb hb9 hs9)
    | (go_at_call 34; have hq := allowed_p B (wdV B (.slice pb B.sp.length cb)) _ ⟨_, rfl, HR.out.2.1.below (HB.out.alloc HB.out.size oSp)⟩; (with_reducible refine Calls.mono hq ?_); clear hq; rintro e w5 ⟨v5, rfl, hs5, hb5⟩; obtain ⟨x5, c5', rfl⟩ := hs5.form; have hyy := bel_blk hb5; have hyl := HB.out.size; have hb5a := bel_blk' hb5; clear hb5; have hb5 := hb5a; clear hb5a; have hbb := HB.out.trans (hb5.mono HB.out.size); have HY : Hid _ := And.intro hyy hyl; obtain ⟨⟨y0, y1⟩, g0, g1⟩ := blk2 hyy; obtain ⟨q1, q2, q3, q4, q5, q6⟩ := neY hyl (lt_of HX.out.2.2); clear hyy hyl; clear HB a0 a1 a2 a3 b0 b1 b2 b3 c0 c1 c2 c3 f0 f1 f2 f3; obtain ⟨a0, a1, a2, a3, b0, b1, b2, b3, c0, c1, c2, c3, f0, f1, f2, f3⟩ := HK.out _ hbb; have HB : Hid _ := hbb; have hk' := SpV.below HNA.out hb5; clear HNA; have HNA : Hid (SpV _ _ (alw A).not) := hk'; clear hk'; have HSB : Hid (SpV _ _ (alw B)) := hs5; clear hbb hb5 hs5)
    | (go_at_call 36; have hq := not_p (alw B) _ _ (SpV.below HSB.out (bel1 _ oSp)); (with_reducible refine Calls.mono hq ?_); clear hq; rintro e w6 ⟨v6, rfl, hs6, hb6⟩; obtain ⟨x6, c6', rfl⟩ := hs6.form; have hyy := bel_blk hb6; have hyl := HB.out.size; have hb6a := bel_blk' hb6; clear hb6; have hb6 := hb6a; clear hb6a; have hbb := HB.out.trans (hb6.mono HB.out.size); have HY : Hid _ := And.intro hyy hyl; obtain ⟨⟨y0, y1⟩, g0, g1⟩ := blk2 hyy; obtain ⟨q1, q2, q3, q4, q5, q6⟩ := neY hyl (lt_of HX.out.2.2); clear hyy hyl; clear HB a0 a1 a2 a3 b0 b1 b2 b3 c0 c1 c2 c3 f0 f1 f2 f3; obtain ⟨a0, a1, a2, a3, b0, b1, b2, b3, c0, c1, c2, c3, f0, f1, f2, f3⟩ := HK.out _ hbb; have HB : Hid _ := hbb; have hk' := SpV.below HNA.out hb6; clear HNA; have HNA : Hid (SpV _ _ (alw A).not) := hk'; clear hk'; have HNB : Hid (SpV _ _ (alw B).not) := hs6; clear hbb hb6 hs6)
    | (go_at_call 33; have hq := both_p (alw A).not (alw B).not _ _ _ (SpV.below HNA.out (bel1 _ oSp)) (SpV.below HNB.out (bel1 _ oSp)) HI.out.1 HI.out.2.1 (by have := HI.out.2.2.1; show (alw A).l.length < 5000; omega) (by have := HI.out.2.2.2; show (alw B).l.length < 5000; omega); (with_reducible refine Calls.mono hq ?_); clear hq; rintro e w7 ⟨v7, rfl, hs7, hb7⟩; obtain ⟨x7, c7', rfl⟩ := hs7.form; have hyy := bel_blk hb7; have hyl := HB.out.size; have hb7a := bel_blk' hb7; clear hb7; have hb7 := hb7a; clear hb7a; have hbb := HB.out.trans (hb7.mono HB.out.size); have HY : Hid _ := And.intro hyy hyl; obtain ⟨⟨y0, y1⟩, g0, g1⟩ := blk2 hyy; obtain ⟨q1, q2, q3, q4, q5, q6⟩ := neY hyl (lt_of HX.out.2.2); clear hyy hyl; clear HB a0 a1 a2 a3 b0 b1 b2 b3 c0 c1 c2 c3 f0 f1 f2 f3; obtain ⟨a0, a1, a2, a3, b0, b1, b2, b3, c0, c1, c2, c3, f0, f1, f2, f3⟩ := HK.out _ hbb; have HB : Hid _ := hbb; have HSC : Hid (SpV _ _ (bothS (alw A).not (alw B).not)) := hs7; clear hbb hb7 hs7)
    | (go_at_call 34; have hq := allowed_p A (wdV A (.slice pa A.sp.length ca)) _ ⟨_, rfl, HR.out.1.below (bel1 U oSp).drew⟩; (with_reducible refine Calls.mono hq ?_); clear hq; rintro e w4 ⟨v4, rfl, hs4, hb4a⟩; obtain ⟨x4, c4', rfl⟩ := hs4.form; have hb4 : Below (U.alloc oSp).heap.size (U.alloc oSp) w4 := ⟨hb4a.os, hb4a.tape, hb4a.output, hb4a.size, hb4a.block⟩; have hyy := bel_blk hb4; have hyl := Nat.le_refl U.heap.size; have hbb := bel_blk' hb4; have HY : Hid _ := And.intro hyy hyl; obtain ⟨⟨y0, y1⟩, g0, g1⟩ := blk2 hyy; obtain ⟨q1, q2, q3, q4, q5, q6⟩ := neY hyl (lt_of HX.out.2.2); clear hyy hyl hb4a; clear HB a0 a1 a2 a3 b0 b1 b2 b3 c0 c1 c2 c3 f0 f1 f2 f3; obtain ⟨a0, a1, a2, a3, b0, b1, b2, b3, c0, c1, c2, c3, f0, f1, f2, f3⟩ := HK.out _ hbb; have HB : Hid _ := hbb; have HSA : Hid (SpV _ _ (alw A)) := hs4; clear hbb hb4 hs4))
  · refine gen_world (G := Exit.then _ _ _ _) (F := UnF U w7.heap.size (bothS (alw A).not (alw B).not) (.slice x7 (bothS (alw A).not (alw B).not).l.length c7')) (un_new HB.out HSC.out.row) ?_
    intro V hV
    have HV : Hid (UnF U w7.heap.size (bothS (alw A).not (alw B).not) (.slice x7 (bothS (alw A).not (alw B).not).l.length c7') V) := hV
    clear hV
    have hq1 := HV.out.2.2.2
    have hq2 := lt_of HX.out.2.2
    have HK2 : Hid (∀ W, Below V.heap.size V W → (W.cell? ⟨w7.heap.size, 0, none⟩ = some (.bool (bothS (alw A).not (alw B).not).o) ∧ W.cell? ⟨w7.heap.size, 1, none⟩ = some (.slice x7 (bothS (alw A).not (alw B).not).l.length c7') ∧ W.cell? ⟨w.heap.size, 3, none⟩ = some (.int .i64 A.pr) ∧ W.cell? ⟨w.heap.size + 1 + 1, 0, none⟩ = some (.int .i64 0) ∧ W.cell? ⟨w.heap.size + 1 + 1, 1, none⟩ = some (.string ⟨#[]⟩) ∧ W.cell? ⟨w.heap.size + 1 + 1, 2, none⟩ = some (.slice none 0 0) ∧ W.cell? ⟨w.heap.size + 1 + 1, 3, none⟩ = some (.int .i64 0) ∧ W.frozen? ⟨w.heap.size + 1 + 1, 0, none⟩ = false ∧ W.frozen? ⟨w.heap.size + 1 + 1, 1, none⟩ = false ∧ W.frozen? ⟨w.heap.size + 1 + 1, 2, none⟩ = false ∧ W.frozen? ⟨w.heap.size + 1 + 1, 3, none⟩ = false)) := fun W hW => by
      have hU := HV.out.2.2.1.trans (hW.mono HV.out.2.2.1.size)
      obtain ⟨a0, a1, a2, a3, b0, b1, b2, b3, c0, c1, c2, c3, f0, f1, f2, f3⟩ := HK.out W hU
      obtain ⟨⟨y0, y1⟩, _⟩ := blk2 ((hW.block _ (lt_of HV.out.1)).trans HV.out.1)
      exact ⟨y0, y1, a3, c0, c1, c2, c3, f0, f1, f2, f3⟩
    (try clear HY y0 y1 g0 g1 q1 q2 q3 q4 q5 q6)
    clear a0 a1 a2 a3 b0 b1 b2 b3 c0 c1 c2 c3 f0 f1 f2 f3 HB HSC
    have HB2 : Hid (Below V.heap.size V V.drew) := (Below.refl _ _).drew
    obtain ⟨y0, y1, a3, c0, c1, c2, c3, f0, f1, f2, f3⟩ := HK2.out V (Below.refl _ _)
    have q1 : ¬ w.heap.size + 1 + 1 = w7.heap.size := by omega
    have q2 : ¬ w7.heap.size = w.heap.size + 1 + 1 := by omega
    clear hq1 hq2
    go_upto_region 2 with fail
    go_region_held3 (fun W => W.cell? ⟨w7.heap.size, 0, none⟩ = some (.bool (bothS (alw A).not (alw B).not).o) ∧ W.cell? ⟨w7.heap.size, 1, none⟩ = some (.slice x7 (bothS (alw A).not (alw B).not).l.length c7') ∧ W.cell? ⟨w.heap.size, 3, none⟩ = some (.int .i64 A.pr)) (first | exact ⟨y0, y1, a3⟩ | go_keep) (first
      | (go_at_call 36; have hq := not_p (bothS (alw A).not (alw B).not) (spV (bothS (alw A).not (alw B).not) (.slice x7 (bothS (alw A).not (alw B).not).l.length c7')) _ ⟨_, rfl, HV.out.2.1.below HB2.out⟩; (with_reducible refine Calls.mono hq ?_); clear hq; rintro e w11 ⟨v11, rfl, hs11, hb11⟩; obtain ⟨x11, c11', rfl⟩ := hs11.form; have hbb := HB2.out.trans (hb11.mono HB2.out.size); clear HB2 y0 y1 a3 c0 c1 c2 c3 f0 f1 f2 f3; obtain ⟨y0, y1, a3, c0, c1, c2, c3, f0, f1, f2, f3⟩ := HK2.out _ hbb; have HB2 : Hid _ := hbb; have HSN : Hid (SpV _ _ (bothS (alw A).not (alw B).not).not) := hs11; clear hbb hb11 hs11)
      | (go_at_call 32; have hq := said_p (bothS (alw A).not (alw B).not).not A.pr _ _ HSN.out (both_len HI.out.2.2.1 HI.out.2.2.2 la lb); (with_reducible refine Calls.mono hq ?_); clear hq; rintro e w8 ⟨v8, rfl, hs8, hb8⟩; obtain ⟨x8, c8', rfl⟩ := hs8.form; have hbb := HB2.out.trans (hb8.mono HB2.out.size); clear HB2 y0 y1 a3 c0 c1 c2 c3 f0 f1 f2 f3; obtain ⟨y0, y1, a3, c0, c1, c2, c3, f0, f1, f2, f3⟩ := HK2.out _ hbb; have HB2 : Hid _ := hbb; have HSD : Hid (WdV _ _ (unionP A B).1) := hs8; clear hbb hb8 hs8))
    all_goals
      have hU8 := HV.out.2.2.1.trans (HB2.out.mono HV.out.2.2.1.size)
      have hx8 := (hU8.block _ (lt_of HX.out.2.2)).trans HX.out.2.2
      have hbw := HR.out.2.2.trans (hU8.mono HR.out.2.2.size)
      have hrow := WdV.row HSD.out
      have HE : Hid _ := And.intro hx8 (And.intro hbw hrow)
      clear hx8 hbw hrow hU8 HB2 HSD HSN HK2 HK y0 y1 a3 c0 c1 c2 c3 f0 f1 f2 f3
      go_wp2_with fail
      refine ret_w2 (X := w.heap.size + 1 + 1) Tryd.results17 rfl rfl ⟨_, set4_heap _ _ _ _ HE.out.1, rfl, ?_⟩
      exact ⟨_, rfl, ⟨_, rfl, set4_res _ _ _ _ HE.out.2.2 HE.out.1 sB_or⟩, set4_bel _ _ _ _ HE.out.2.1 (by omega)⟩
  · refine gen_world (G := Exit.then _ _ _ _) (F := UnF U w6.heap.size (bothS (alw A).not (alw B).not) (.slice x7 (bothS (alw A).not (alw B).not).l.length c7')) (un_set HY.out.1 HY.out.2 HB.out HSC.out.row) ?_
    intro V hV
    have HV : Hid (UnF U w6.heap.size (bothS (alw A).not (alw B).not) (.slice x7 (bothS (alw A).not (alw B).not).l.length c7') V) := hV
    clear hV
    have hq1 := HV.out.2.2.2
    have hq2 := lt_of HX.out.2.2
    have HK2 : Hid (∀ W, Below V.heap.size V W → (W.cell? ⟨w6.heap.size, 0, none⟩ = some (.bool (bothS (alw A).not (alw B).not).o) ∧ W.cell? ⟨w6.heap.size, 1, none⟩ = some (.slice x7 (bothS (alw A).not (alw B).not).l.length c7') ∧ W.cell? ⟨w.heap.size, 3, none⟩ = some (.int .i64 A.pr) ∧ W.cell? ⟨w.heap.size + 1 + 1, 0, none⟩ = some (.int .i64 0) ∧ W.cell? ⟨w.heap.size + 1 + 1, 1, none⟩ = some (.string ⟨#[]⟩) ∧ W.cell? ⟨w.heap.size + 1 + 1, 2, none⟩ = some (.slice none 0 0) ∧ W.cell? ⟨w.heap.size + 1 + 1, 3, none⟩ = some (.int .i64 0) ∧ W.frozen? ⟨w.heap.size + 1 + 1, 0, none⟩ = false ∧ W.frozen? ⟨w.heap.size + 1 + 1, 1, none⟩ = false ∧ W.frozen? ⟨w.heap.size + 1 + 1, 2, none⟩ = false ∧ W.frozen? ⟨w.heap.size + 1 + 1, 3, none⟩ = false)) := fun W hW => by
      have hU := HV.out.2.2.1.trans (hW.mono HV.out.2.2.1.size)
      obtain ⟨a0, a1, a2, a3, b0, b1, b2, b3, c0, c1, c2, c3, f0, f1, f2, f3⟩ := HK.out W hU
      obtain ⟨⟨y0, y1⟩, _⟩ := blk2 ((hW.block _ (lt_of HV.out.1)).trans HV.out.1)
      exact ⟨y0, y1, a3, c0, c1, c2, c3, f0, f1, f2, f3⟩
    (try clear HY y0 y1 g0 g1 q1 q2 q3 q4 q5 q6)
    clear a0 a1 a2 a3 b0 b1 b2 b3 c0 c1 c2 c3 f0 f1 f2 f3 HB HSC
    have HB2 : Hid (Below V.heap.size V V.drew) := (Below.refl _ _).drew
    obtain ⟨y0, y1, a3, c0, c1, c2, c3, f0, f1, f2, f3⟩ := HK2.out V (Below.refl _ _)
    have q1 : ¬ w.heap.size + 1 + 1 = w6.heap.size := by omega
    have q2 : ¬ w6.heap.size = w.heap.size + 1 + 1 := by omega
    clear hq1 hq2
    go_upto_region 2 with fail
    go_region_held3 (fun W => W.cell? ⟨w6.heap.size, 0, none⟩ = some (.bool (bothS (alw A).not (alw B).not).o) ∧ W.cell? ⟨w6.heap.size, 1, none⟩ = some (.slice x7 (bothS (alw A).not (alw B).not).l.length c7') ∧ W.cell? ⟨w.heap.size, 3, none⟩ = some (.int .i64 A.pr)) (first | exact ⟨y0, y1, a3⟩ | go_keep) (first
      | (go_at_call 36; have hq := not_p (bothS (alw A).not (alw B).not) (spV (bothS (alw A).not (alw B).not) (.slice x7 (bothS (alw A).not (alw B).not).l.length c7')) _ ⟨_, rfl, HV.out.2.1.below HB2.out⟩; (with_reducible refine Calls.mono hq ?_); clear hq; rintro e w11 ⟨v11, rfl, hs11, hb11⟩; obtain ⟨x11, c11', rfl⟩ := hs11.form; have hbb := HB2.out.trans (hb11.mono HB2.out.size); clear HB2 y0 y1 a3 c0 c1 c2 c3 f0 f1 f2 f3; obtain ⟨y0, y1, a3, c0, c1, c2, c3, f0, f1, f2, f3⟩ := HK2.out _ hbb; have HB2 : Hid _ := hbb; have HSN : Hid (SpV _ _ (bothS (alw A).not (alw B).not).not) := hs11; clear hbb hb11 hs11)
      | (go_at_call 32; have hq := said_p (bothS (alw A).not (alw B).not).not A.pr _ _ HSN.out (both_len HI.out.2.2.1 HI.out.2.2.2 la lb); (with_reducible refine Calls.mono hq ?_); clear hq; rintro e w8 ⟨v8, rfl, hs8, hb8⟩; obtain ⟨x8, c8', rfl⟩ := hs8.form; have hbb := HB2.out.trans (hb8.mono HB2.out.size); clear HB2 y0 y1 a3 c0 c1 c2 c3 f0 f1 f2 f3; obtain ⟨y0, y1, a3, c0, c1, c2, c3, f0, f1, f2, f3⟩ := HK2.out _ hbb; have HB2 : Hid _ := hbb; have HSD : Hid (WdV _ _ (unionP A B).1) := hs8; clear hbb hb8 hs8))
    all_goals
      have hU8 := HV.out.2.2.1.trans (HB2.out.mono HV.out.2.2.1.size)
      have hx8 := (hU8.block _ (lt_of HX.out.2.2)).trans HX.out.2.2
      have hbw := HR.out.2.2.trans (hU8.mono HR.out.2.2.size)
      have hrow := WdV.row HSD.out
      have HE : Hid _ := And.intro hx8 (And.intro hbw hrow)
      clear hx8 hbw hrow hU8 HB2 HSD HSN HK2 HK y0 y1 a3 c0 c1 c2 c3 f0 f1 f2 f3
      go_wp2_with fail
      refine ret_w2 (X := w.heap.size + 1 + 1) Tryd.results17 rfl rfl ⟨_, set4_heap _ _ _ _ HE.out.1, rfl, ?_⟩
      exact ⟨_, rfl, ⟨_, rfl, set4_res _ _ _ _ HE.out.2.2 HE.out.1 sB_or⟩, set4_bel _ _ _ _ HE.out.2.1 (by omega)⟩
  · refine gen_world (G := Exit.then _ _ _ _) (F := UnF U w5.heap.size (bothS (alw A).not (alw B).not) (.slice x7 (bothS (alw A).not (alw B).not).l.length c7')) (un_set HY.out.1 HY.out.2 HB.out HSC.out.row) ?_
    intro V hV
    have HV : Hid (UnF U w5.heap.size (bothS (alw A).not (alw B).not) (.slice x7 (bothS (alw A).not (alw B).not).l.length c7') V) := hV
    clear hV
    have hq1 := HV.out.2.2.2
    have hq2 := lt_of HX.out.2.2
    have HK2 : Hid (∀ W, Below V.heap.size V W → (W.cell? ⟨w5.heap.size, 0, none⟩ = some (.bool (bothS (alw A).not (alw B).not).o) ∧ W.cell? ⟨w5.heap.size, 1, none⟩ = some (.slice x7 (bothS (alw A).not (alw B).not).l.length c7') ∧ W.cell? ⟨w.heap.size, 3, none⟩ = some (.int .i64 A.pr) ∧ W.cell? ⟨w.heap.size + 1 + 1, 0, none⟩ = some (.int .i64 0) ∧ W.cell? ⟨w.heap.size + 1 + 1, 1, none⟩ = some (.string ⟨#[]⟩) ∧ W.cell? ⟨w.heap.size + 1 + 1, 2, none⟩ = some (.slice none 0 0) ∧ W.cell? ⟨w.heap.size + 1 + 1, 3, none⟩ = some (.int .i64 0) ∧ W.frozen? ⟨w.heap.size + 1 + 1, 0, none⟩ = false ∧ W.frozen? ⟨w.heap.size + 1 + 1, 1, none⟩ = false ∧ W.frozen? ⟨w.heap.size + 1 + 1, 2, none⟩ = false ∧ W.frozen? ⟨w.heap.size + 1 + 1, 3, none⟩ = false)) := fun W hW => by
      have hU := HV.out.2.2.1.trans (hW.mono HV.out.2.2.1.size)
      obtain ⟨a0, a1, a2, a3, b0, b1, b2, b3, c0, c1, c2, c3, f0, f1, f2, f3⟩ := HK.out W hU
      obtain ⟨⟨y0, y1⟩, _⟩ := blk2 ((hW.block _ (lt_of HV.out.1)).trans HV.out.1)
      exact ⟨y0, y1, a3, c0, c1, c2, c3, f0, f1, f2, f3⟩
    (try clear HY y0 y1 g0 g1 q1 q2 q3 q4 q5 q6)
    clear a0 a1 a2 a3 b0 b1 b2 b3 c0 c1 c2 c3 f0 f1 f2 f3 HB HSC
    have HB2 : Hid (Below V.heap.size V V.drew) := (Below.refl _ _).drew
    obtain ⟨y0, y1, a3, c0, c1, c2, c3, f0, f1, f2, f3⟩ := HK2.out V (Below.refl _ _)
    have q1 : ¬ w.heap.size + 1 + 1 = w5.heap.size := by omega
    have q2 : ¬ w5.heap.size = w.heap.size + 1 + 1 := by omega
    clear hq1 hq2
    go_upto_region 2 with fail
    go_region_held3 (fun W => W.cell? ⟨w5.heap.size, 0, none⟩ = some (.bool (bothS (alw A).not (alw B).not).o) ∧ W.cell? ⟨w5.heap.size, 1, none⟩ = some (.slice x7 (bothS (alw A).not (alw B).not).l.length c7') ∧ W.cell? ⟨w.heap.size, 3, none⟩ = some (.int .i64 A.pr)) (first | exact ⟨y0, y1, a3⟩ | go_keep) (first
      | (go_at_call 36; have hq := not_p (bothS (alw A).not (alw B).not) (spV (bothS (alw A).not (alw B).not) (.slice x7 (bothS (alw A).not (alw B).not).l.length c7')) _ ⟨_, rfl, HV.out.2.1.below HB2.out⟩; (with_reducible refine Calls.mono hq ?_); clear hq; rintro e w11 ⟨v11, rfl, hs11, hb11⟩; obtain ⟨x11, c11', rfl⟩ := hs11.form; have hbb := HB2.out.trans (hb11.mono HB2.out.size); clear HB2 y0 y1 a3 c0 c1 c2 c3 f0 f1 f2 f3; obtain ⟨y0, y1, a3, c0, c1, c2, c3, f0, f1, f2, f3⟩ := HK2.out _ hbb; have HB2 : Hid _ := hbb; have HSN : Hid (SpV _ _ (bothS (alw A).not (alw B).not).not) := hs11; clear hbb hb11 hs11)
      | (go_at_call 32; have hq := said_p (bothS (alw A).not (alw B).not).not A.pr _ _ HSN.out (both_len HI.out.2.2.1 HI.out.2.2.2 la lb); (with_reducible refine Calls.mono hq ?_); clear hq; rintro e w8 ⟨v8, rfl, hs8, hb8⟩; obtain ⟨x8, c8', rfl⟩ := hs8.form; have hbb := HB2.out.trans (hb8.mono HB2.out.size); clear HB2 y0 y1 a3 c0 c1 c2 c3 f0 f1 f2 f3; obtain ⟨y0, y1, a3, c0, c1, c2, c3, f0, f1, f2, f3⟩ := HK2.out _ hbb; have HB2 : Hid _ := hbb; have HSD : Hid (WdV _ _ (unionP A B).1) := hs8; clear hbb hb8 hs8))
    all_goals
      have hU8 := HV.out.2.2.1.trans (HB2.out.mono HV.out.2.2.1.size)
      have hx8 := (hU8.block _ (lt_of HX.out.2.2)).trans HX.out.2.2
      have hbw := HR.out.2.2.trans (hU8.mono HR.out.2.2.size)
      have hrow := WdV.row HSD.out
      have HE : Hid _ := And.intro hx8 (And.intro hbw hrow)
      clear hx8 hbw hrow hU8 HB2 HSD HSN HK2 HK y0 y1 a3 c0 c1 c2 c3 f0 f1 f2 f3
      go_wp2_with fail
      refine ret_w2 (X := w.heap.size + 1 + 1) Tryd.results17 rfl rfl ⟨_, set4_heap _ _ _ _ HE.out.1, rfl, ?_⟩
      exact ⟨_, rfl, ⟨_, rfl, set4_res _ _ _ _ HE.out.2.2 HE.out.1 sB_or⟩, set4_bel _ _ _ _ HE.out.2.1 (by omega)⟩
  · refine gen_world (G := Exit.then _ _ _ _) (F := UnF U w9.heap.size (bothS (alw A).not (alw B).not) (.slice x7 (bothS (alw A).not (alw B).not).l.length c7')) (un_set HY.out.1 HY.out.2 HB.out HSC.out.row) ?_
    intro V hV
    have HV : Hid (UnF U w9.heap.size (bothS (alw A).not (alw B).not) (.slice x7 (bothS (alw A).not (alw B).not).l.length c7') V) := hV
    clear hV
    have hq1 := HV.out.2.2.2
    have hq2 := lt_of HX.out.2.2
    have HK2 : Hid (∀ W, Below V.heap.size V W → (W.cell? ⟨w9.heap.size, 0, none⟩ = some (.bool (bothS (alw A).not (alw B).not).o) ∧ W.cell? ⟨w9.heap.size, 1, none⟩ = some (.slice x7 (bothS (alw A).not (alw B).not).l.length c7') ∧ W.cell? ⟨w.heap.size, 3, none⟩ = some (.int .i64 A.pr) ∧ W.cell? ⟨w.heap.size + 1 + 1, 0, none⟩ = some (.int .i64 0) ∧ W.cell? ⟨w.heap.size + 1 + 1, 1, none⟩ = some (.string ⟨#[]⟩) ∧ W.cell? ⟨w.heap.size + 1 + 1, 2, none⟩ = some (.slice none 0 0) ∧ W.cell? ⟨w.heap.size + 1 + 1, 3, none⟩ = some (.int .i64 0) ∧ W.frozen? ⟨w.heap.size + 1 + 1, 0, none⟩ = false ∧ W.frozen? ⟨w.heap.size + 1 + 1, 1, none⟩ = false ∧ W.frozen? ⟨w.heap.size + 1 + 1, 2, none⟩ = false ∧ W.frozen? ⟨w.heap.size + 1 + 1, 3, none⟩ = false)) := fun W hW => by
      have hU := HV.out.2.2.1.trans (hW.mono HV.out.2.2.1.size)
      obtain ⟨a0, a1, a2, a3, b0, b1, b2, b3, c0, c1, c2, c3, f0, f1, f2, f3⟩ := HK.out W hU
      obtain ⟨⟨y0, y1⟩, _⟩ := blk2 ((hW.block _ (lt_of HV.out.1)).trans HV.out.1)
      exact ⟨y0, y1, a3, c0, c1, c2, c3, f0, f1, f2, f3⟩
    (try clear HY y0 y1 g0 g1 q1 q2 q3 q4 q5 q6)
    clear a0 a1 a2 a3 b0 b1 b2 b3 c0 c1 c2 c3 f0 f1 f2 f3 HB HSC
    have HB2 : Hid (Below V.heap.size V V.drew) := (Below.refl _ _).drew
    obtain ⟨y0, y1, a3, c0, c1, c2, c3, f0, f1, f2, f3⟩ := HK2.out V (Below.refl _ _)
    have q1 : ¬ w.heap.size + 1 + 1 = w9.heap.size := by omega
    have q2 : ¬ w9.heap.size = w.heap.size + 1 + 1 := by omega
    clear hq1 hq2
    go_upto_region 2 with fail
    go_region_held3 (fun W => W.cell? ⟨w9.heap.size, 0, none⟩ = some (.bool (bothS (alw A).not (alw B).not).o) ∧ W.cell? ⟨w9.heap.size, 1, none⟩ = some (.slice x7 (bothS (alw A).not (alw B).not).l.length c7') ∧ W.cell? ⟨w.heap.size, 3, none⟩ = some (.int .i64 A.pr)) (first | exact ⟨y0, y1, a3⟩ | go_keep) (first
      | (go_at_call 36; have hq := not_p (bothS (alw A).not (alw B).not) (spV (bothS (alw A).not (alw B).not) (.slice x7 (bothS (alw A).not (alw B).not).l.length c7')) _ ⟨_, rfl, HV.out.2.1.below HB2.out⟩; (with_reducible refine Calls.mono hq ?_); clear hq; rintro e w11 ⟨v11, rfl, hs11, hb11⟩; obtain ⟨x11, c11', rfl⟩ := hs11.form; have hbb := HB2.out.trans (hb11.mono HB2.out.size); clear HB2 y0 y1 a3 c0 c1 c2 c3 f0 f1 f2 f3; obtain ⟨y0, y1, a3, c0, c1, c2, c3, f0, f1, f2, f3⟩ := HK2.out _ hbb; have HB2 : Hid _ := hbb; have HSN : Hid (SpV _ _ (bothS (alw A).not (alw B).not).not) := hs11; clear hbb hb11 hs11)
      | (go_at_call 32; have hq := said_p (bothS (alw A).not (alw B).not).not A.pr _ _ HSN.out (both_len HI.out.2.2.1 HI.out.2.2.2 la lb); (with_reducible refine Calls.mono hq ?_); clear hq; rintro e w8 ⟨v8, rfl, hs8, hb8⟩; obtain ⟨x8, c8', rfl⟩ := hs8.form; have hbb := HB2.out.trans (hb8.mono HB2.out.size); clear HB2 y0 y1 a3 c0 c1 c2 c3 f0 f1 f2 f3; obtain ⟨y0, y1, a3, c0, c1, c2, c3, f0, f1, f2, f3⟩ := HK2.out _ hbb; have HB2 : Hid _ := hbb; have HSD : Hid (WdV _ _ (unionP A B).1) := hs8; clear hbb hb8 hs8))
    all_goals
      have hU8 := HV.out.2.2.1.trans (HB2.out.mono HV.out.2.2.1.size)
      have hx8 := (hU8.block _ (lt_of HX.out.2.2)).trans HX.out.2.2
      have hbw := HR.out.2.2.trans (hU8.mono HR.out.2.2.size)
      have hrow := WdV.row HSD.out
      have HE : Hid _ := And.intro hx8 (And.intro hbw hrow)
      clear hx8 hbw hrow hU8 HB2 HSD HSN HK2 HK y0 y1 a3 c0 c1 c2 c3 f0 f1 f2 f3
      go_wp2_with fail
      refine ret_w2 (X := w.heap.size + 1 + 1) Tryd.results17 rfl rfl ⟨_, set4_heap _ _ _ _ HE.out.1, rfl, ?_⟩
      exact ⟨_, rfl, ⟨_, rfl, set4_res _ _ _ _ HE.out.2.2 HE.out.1 sB_or⟩, set4_bel _ _ _ _ HE.out.2.1 (by omega)⟩
  · refine gen_world (G := Exit.then _ _ _ _) (F := UnF U w4.heap.size (bothS (alw A).not (alw B).not) (.slice x7 (bothS (alw A).not (alw B).not).l.length c7')) (un_set HY.out.1 HY.out.2 HB.out HSC.out.row) ?_
    intro V hV
    have HV : Hid (UnF U w4.heap.size (bothS (alw A).not (alw B).not) (.slice x7 (bothS (alw A).not (alw B).not).l.length c7') V) := hV
    clear hV
    have hq1 := HV.out.2.2.2
    have hq2 := lt_of HX.out.2.2
    have HK2 : Hid (∀ W, Below V.heap.size V W → (W.cell? ⟨w4.heap.size, 0, none⟩ = some (.bool (bothS (alw A).not (alw B).not).o) ∧ W.cell? ⟨w4.heap.size, 1, none⟩ = some (.slice x7 (bothS (alw A).not (alw B).not).l.length c7') ∧ W.cell? ⟨w.heap.size, 3, none⟩ = some (.int .i64 A.pr) ∧ W.cell? ⟨w.heap.size + 1 + 1, 0, none⟩ = some (.int .i64 0) ∧ W.cell? ⟨w.heap.size + 1 + 1, 1, none⟩ = some (.string ⟨#[]⟩) ∧ W.cell? ⟨w.heap.size + 1 + 1, 2, none⟩ = some (.slice none 0 0) ∧ W.cell? ⟨w.heap.size + 1 + 1, 3, none⟩ = some (.int .i64 0) ∧ W.frozen? ⟨w.heap.size + 1 + 1, 0, none⟩ = false ∧ W.frozen? ⟨w.heap.size + 1 + 1, 1, none⟩ = false ∧ W.frozen? ⟨w.heap.size + 1 + 1, 2, none⟩ = false ∧ W.frozen? ⟨w.heap.size + 1 + 1, 3, none⟩ = false)) := fun W hW => by
      have hU := HV.out.2.2.1.trans (hW.mono HV.out.2.2.1.size)
      obtain ⟨a0, a1, a2, a3, b0, b1, b2, b3, c0, c1, c2, c3, f0, f1, f2, f3⟩ := HK.out W hU
      obtain ⟨⟨y0, y1⟩, _⟩ := blk2 ((hW.block _ (lt_of HV.out.1)).trans HV.out.1)
      exact ⟨y0, y1, a3, c0, c1, c2, c3, f0, f1, f2, f3⟩
    (try clear HY y0 y1 g0 g1 q1 q2 q3 q4 q5 q6)
    clear a0 a1 a2 a3 b0 b1 b2 b3 c0 c1 c2 c3 f0 f1 f2 f3 HB HSC
    have HB2 : Hid (Below V.heap.size V V.drew) := (Below.refl _ _).drew
    obtain ⟨y0, y1, a3, c0, c1, c2, c3, f0, f1, f2, f3⟩ := HK2.out V (Below.refl _ _)
    have q1 : ¬ w.heap.size + 1 + 1 = w4.heap.size := by omega
    have q2 : ¬ w4.heap.size = w.heap.size + 1 + 1 := by omega
    clear hq1 hq2
    go_upto_region 2 with fail
    go_region_held3 (fun W => W.cell? ⟨w4.heap.size, 0, none⟩ = some (.bool (bothS (alw A).not (alw B).not).o) ∧ W.cell? ⟨w4.heap.size, 1, none⟩ = some (.slice x7 (bothS (alw A).not (alw B).not).l.length c7') ∧ W.cell? ⟨w.heap.size, 3, none⟩ = some (.int .i64 A.pr)) (first | exact ⟨y0, y1, a3⟩ | go_keep) (first
      | (go_at_call 36; have hq := not_p (bothS (alw A).not (alw B).not) (spV (bothS (alw A).not (alw B).not) (.slice x7 (bothS (alw A).not (alw B).not).l.length c7')) _ ⟨_, rfl, HV.out.2.1.below HB2.out⟩; (with_reducible refine Calls.mono hq ?_); clear hq; rintro e w11 ⟨v11, rfl, hs11, hb11⟩; obtain ⟨x11, c11', rfl⟩ := hs11.form; have hbb := HB2.out.trans (hb11.mono HB2.out.size); clear HB2 y0 y1 a3 c0 c1 c2 c3 f0 f1 f2 f3; obtain ⟨y0, y1, a3, c0, c1, c2, c3, f0, f1, f2, f3⟩ := HK2.out _ hbb; have HB2 : Hid _ := hbb; have HSN : Hid (SpV _ _ (bothS (alw A).not (alw B).not).not) := hs11; clear hbb hb11 hs11)
      | (go_at_call 32; have hq := said_p (bothS (alw A).not (alw B).not).not A.pr _ _ HSN.out (both_len HI.out.2.2.1 HI.out.2.2.2 la lb); (with_reducible refine Calls.mono hq ?_); clear hq; rintro e w8 ⟨v8, rfl, hs8, hb8⟩; obtain ⟨x8, c8', rfl⟩ := hs8.form; have hbb := HB2.out.trans (hb8.mono HB2.out.size); clear HB2 y0 y1 a3 c0 c1 c2 c3 f0 f1 f2 f3; obtain ⟨y0, y1, a3, c0, c1, c2, c3, f0, f1, f2, f3⟩ := HK2.out _ hbb; have HB2 : Hid _ := hbb; have HSD : Hid (WdV _ _ (unionP A B).1) := hs8; clear hbb hb8 hs8))
    all_goals
      have hU8 := HV.out.2.2.1.trans (HB2.out.mono HV.out.2.2.1.size)
      have hx8 := (hU8.block _ (lt_of HX.out.2.2)).trans HX.out.2.2
      have hbw := HR.out.2.2.trans (hU8.mono HR.out.2.2.size)
      have hrow := WdV.row HSD.out
      have HE : Hid _ := And.intro hx8 (And.intro hbw hrow)
      clear hx8 hbw hrow hU8 HB2 HSD HSN HK2 HK y0 y1 a3 c0 c1 c2 c3 f0 f1 f2 f3
      go_wp2_with fail
      refine ret_w2 (X := w.heap.size + 1 + 1) Tryd.results17 rfl rfl ⟨_, set4_heap _ _ _ _ HE.out.1, rfl, ?_⟩
      exact ⟨_, rfl, ⟨_, rfl, set4_res _ _ _ _ HE.out.2.2 HE.out.1 sB_or⟩, set4_bel _ _ _ _ HE.out.2.1 (by omega)⟩
  · refine gen_world (G := Exit.then _ _ _ _) (F := UnF U U.heap.size (bothS (alw A).not (alw B).not) (.slice x7 (bothS (alw A).not (alw B).not).l.length c7')) (un_set HY.out.1 HY.out.2 HB.out HSC.out.row) ?_
    intro V hV
    have HV : Hid (UnF U U.heap.size (bothS (alw A).not (alw B).not) (.slice x7 (bothS (alw A).not (alw B).not).l.length c7') V) := hV
    clear hV
    have hq1 := HV.out.2.2.2
    have hq2 := lt_of HX.out.2.2
    have HK2 : Hid (∀ W, Below V.heap.size V W → (W.cell? ⟨U.heap.size, 0, none⟩ = some (.bool (bothS (alw A).not (alw B).not).o) ∧ W.cell? ⟨U.heap.size, 1, none⟩ = some (.slice x7 (bothS (alw A).not (alw B).not).l.length c7') ∧ W.cell? ⟨w.heap.size, 3, none⟩ = some (.int .i64 A.pr) ∧ W.cell? ⟨w.heap.size + 1 + 1, 0, none⟩ = some (.int .i64 0) ∧ W.cell? ⟨w.heap.size + 1 + 1, 1, none⟩ = some (.string ⟨#[]⟩) ∧ W.cell? ⟨w.heap.size + 1 + 1, 2, none⟩ = some (.slice none 0 0) ∧ W.cell? ⟨w.heap.size + 1 + 1, 3, none⟩ = some (.int .i64 0) ∧ W.frozen? ⟨w.heap.size + 1 + 1, 0, none⟩ = false ∧ W.frozen? ⟨w.heap.size + 1 + 1, 1, none⟩ = false ∧ W.frozen? ⟨w.heap.size + 1 + 1, 2, none⟩ = false ∧ W.frozen? ⟨w.heap.size + 1 + 1, 3, none⟩ = false)) := fun W hW => by
      have hU := HV.out.2.2.1.trans (hW.mono HV.out.2.2.1.size)
      obtain ⟨a0, a1, a2, a3, b0, b1, b2, b3, c0, c1, c2, c3, f0, f1, f2, f3⟩ := HK.out W hU
      obtain ⟨⟨y0, y1⟩, _⟩ := blk2 ((hW.block _ (lt_of HV.out.1)).trans HV.out.1)
      exact ⟨y0, y1, a3, c0, c1, c2, c3, f0, f1, f2, f3⟩
    (try clear HY y0 y1 g0 g1 q1 q2 q3 q4 q5 q6)
    clear a0 a1 a2 a3 b0 b1 b2 b3 c0 c1 c2 c3 f0 f1 f2 f3 HB HSC
    have HB2 : Hid (Below V.heap.size V V.drew) := (Below.refl _ _).drew
    obtain ⟨y0, y1, a3, c0, c1, c2, c3, f0, f1, f2, f3⟩ := HK2.out V (Below.refl _ _)
    have q1 : ¬ w.heap.size + 1 + 1 = U.heap.size := by omega
    have q2 : ¬ U.heap.size = w.heap.size + 1 + 1 := by omega
    clear hq1 hq2
    go_upto_region 2 with fail
    go_region_held3 (fun W => W.cell? ⟨U.heap.size, 0, none⟩ = some (.bool (bothS (alw A).not (alw B).not).o) ∧ W.cell? ⟨U.heap.size, 1, none⟩ = some (.slice x7 (bothS (alw A).not (alw B).not).l.length c7') ∧ W.cell? ⟨w.heap.size, 3, none⟩ = some (.int .i64 A.pr)) (first | exact ⟨y0, y1, a3⟩ | go_keep) (first
      | (go_at_call 36; have hq := not_p (bothS (alw A).not (alw B).not) (spV (bothS (alw A).not (alw B).not) (.slice x7 (bothS (alw A).not (alw B).not).l.length c7')) _ ⟨_, rfl, HV.out.2.1.below HB2.out⟩; (with_reducible refine Calls.mono hq ?_); clear hq; rintro e w11 ⟨v11, rfl, hs11, hb11⟩; obtain ⟨x11, c11', rfl⟩ := hs11.form; have hbb := HB2.out.trans (hb11.mono HB2.out.size); clear HB2 y0 y1 a3 c0 c1 c2 c3 f0 f1 f2 f3; obtain ⟨y0, y1, a3, c0, c1, c2, c3, f0, f1, f2, f3⟩ := HK2.out _ hbb; have HB2 : Hid _ := hbb; have HSN : Hid (SpV _ _ (bothS (alw A).not (alw B).not).not) := hs11; clear hbb hb11 hs11)
      | (go_at_call 32; have hq := said_p (bothS (alw A).not (alw B).not).not A.pr _ _ HSN.out (both_len HI.out.2.2.1 HI.out.2.2.2 la lb); (with_reducible refine Calls.mono hq ?_); clear hq; rintro e w8 ⟨v8, rfl, hs8, hb8⟩; obtain ⟨x8, c8', rfl⟩ := hs8.form; have hbb := HB2.out.trans (hb8.mono HB2.out.size); clear HB2 y0 y1 a3 c0 c1 c2 c3 f0 f1 f2 f3; obtain ⟨y0, y1, a3, c0, c1, c2, c3, f0, f1, f2, f3⟩ := HK2.out _ hbb; have HB2 : Hid _ := hbb; have HSD : Hid (WdV _ _ (unionP A B).1) := hs8; clear hbb hb8 hs8))
    all_goals
      have hU8 := HV.out.2.2.1.trans (HB2.out.mono HV.out.2.2.1.size)
      have hx8 := (hU8.block _ (lt_of HX.out.2.2)).trans HX.out.2.2
      have hbw := HR.out.2.2.trans (hU8.mono HR.out.2.2.size)
      have hrow := WdV.row HSD.out
      have HE : Hid _ := And.intro hx8 (And.intro hbw hrow)
      clear hx8 hbw hrow hU8 HB2 HSD HSN HK2 HK y0 y1 a3 c0 c1 c2 c3 f0 f1 f2 f3
      go_wp2_with fail
      refine ret_w2 (X := w.heap.size + 1 + 1) Tryd.results17 rfl rfl ⟨_, set4_heap _ _ _ _ HE.out.1, rfl, ?_⟩
      exact ⟨_, rfl, ⟨_, rfl, set4_res _ _ _ _ HE.out.2.2 HE.out.1 sB_or⟩, set4_bel _ _ _ _ HE.out.2.1 (by omega)⟩
end Go.Proofs.YtknfipcegmajaaaDoor
namespace Go.Proofs.YtknfipcegmajaaaDoor
open Go.RowKit
set_option linter.unusedVariables false
set_option linter.unusedSimpArgs false

def fewB (W : Wd) : Bool := decide (W.sp.length ≤ 30 ∧ W.nt.length ≤ 300 ∧ ∀ x ∈ W.sp, x.length ≤ 300)
theorem sB_size (x : Tx) : (sB x).size = x.length := by simp [sB, ByteArray.size]
set_option maxRecDepth 8000 in
set_option maxHeartbeats 4000000 in
theorem few_p (W : Wd) (v : Value) (w : World) (h : WdV w v W) (hl : W.sp.length ≤ maxLen) (ht : ∀ x ∈ W.sp, x.length ≤ maxLen) (hn : W.nt.length ≤ maxLen) : Calls Tryd.prog 12 #[v] w fun e w' => e = .returned (.bool (fewB W)) ∧ Below w.heap.size w w' := by
  obtain ⟨sl, rfl, h⟩ := h
  obtain ⟨a, c, rfl, hc⟩ := h.len
  unfold maxLen at *
  have hb0 : Below w.heap.size w (w.alloc (.cells #[.int .i64 W.how, .string (sB W.nt), .slice a W.sp.length c, .int .i64 W.pr] 25)) := bel1 _ _
  have hx := nw_heap w (.cells #[.int .i64 W.how, .string (sB W.nt), .slice a W.sp.length c, .int .i64 W.pr] 25)
  have hr := h.below hb0
  have HX : Hid _ := And.intro hr (And.intro hb0 ht)
  have HN : Hid _ := hn
  have snt := sB_size W.nt
  clear h hb0 hr ht hn
  obtain ⟨T, hT⟩ : ∃ T, fewB W = T := ⟨_, rfl⟩
  rw [hT]
  have HT : Hid _ := hT
  clear hT
  go_enter Tryd.func12, Tryd.ntmps12
  go_wp2_with fail
  generalize (w.alloc (.cells #[.int .i64 W.how, .string (sB W.nt), .slice a W.sp.length c, .int .i64 W.pr] 25)) = U at HX hx ⊢
  obtain ⟨i0, i1, i2, i3⟩ : U.cell? ⟨w.heap.size, 0, none⟩ = some (.int .i64 W.how) ∧ U.cell? ⟨w.heap.size, 1, none⟩ = some (.string (sB W.nt)) ∧ U.cell? ⟨w.heap.size, 2, none⟩ = some (.slice a W.sp.length c) ∧ U.cell? ⟨w.heap.size, 3, none⟩ = some (.int .i64 W.pr) := (blk4 hx).1
  clear hx i0 i3
  generalize hnn : W.sp.length = n at hl hc HX i2 ⊢
  have Hn : Hid (W.sp.length = n) := hnn
  clear hnn
  go_loopg [3] (n + 1) (fun g v3 wr => ∃ k : Nat, k + g = n + 1 ∧ v3 = .int .i64 (k : Int) ∧ (∀ j (h : j < W.sp.length), j < k → W.sp[j].length ≤ 300) ∧ k ≤ n ∧ wr = U)
  case atStart => exact ⟨0, by omega, rfl, fun j h hj => by omega, by omega, rfl⟩
  case round =>
    obtain ⟨k, hk, rfl, hall, hkn, hw⟩ := hrel
    subst hw
    have HA : Hid _ := hall
    clear hall
    by_cases hlt : k < n
    · have d1 : decide ((k : Int) < (n : Int)) = true := decide_eq_true (by omega)
      by_cases h30 : k ≤ 30
      · obtain ⟨gg, rfl⟩ : ∃ gg, gk = gg + 1 := ⟨gk - 1, by omega⟩
        have d2 : decide ((k : Int) ≤ 30) = true := decide_eq_true (by omega)
        have hkl : k < W.sp.length := by rw [Hn.out]; exact hlt
        obtain ⟨g0, off, rfl, hg0, hat⟩ := tx_at HX.out.1 (by omega)
        have e0 := hat k hkl
        have hsz := sB_size W.sp[k]
        have hbig := HX.out.2.2 _ (List.getElem_mem hkl)
        obtain ⟨x, hx⟩ : ∃ x, W.sp[k] = x := ⟨_, rfl⟩
        have Hx : Hid _ := hx
        rw [hx] at e0 hsz hbig
        clear hx hat
        obtain ⟨N, hN⟩ : ∃ N, sB x = N := ⟨_, rfl⟩
        change wr.cell? _ = some (.string (sB x)) at e0
        rw [hN] at e0 hsz
        clear hN
        by_cases hlong : 300 < x.length
        · have hf : T = false := by
            rw [← HT.out]
            refine decide_eq_false fun q => ?_
            have := q.2.2 x (by rw [← Hx.out]; exact List.getElem_mem hkl)
            omega
          subst hf
          go_wp2_with fail
          go_ret
          exact ⟨rfl, HX.out.2.1⟩
        · go_wp2_with fail
          go_roundg gg
          case measure => omega
          case rel =>
            refine ⟨k + 1, by omega, by go_num, fun j h hj => ?_, by omega, rfl⟩
            by_cases e : j = k
            · subst e; rw [Hx.out]; omega
            · exact HA.out j h (by omega)
      · have d2 : decide ((k : Int) ≤ 30) = false := decide_eq_false (by omega)
        have hf : T = false := by
          rw [← HT.out]
          refine decide_eq_false fun q => ?_
          have := q.1
          have := Hn.out
          omega
        subst hf
        have d3 : decide ((n : Int) ≤ 30) = false := decide_eq_false (by omega)
        go_wp2_with fail
        go_ret
        exact ⟨rfl, HX.out.2.1⟩
    · have hkn' : k = n := by omega
      subst hkn'
      have hT2 : T = decide (k ≤ 30 ∧ W.nt.length ≤ 300) := by
        rw [← HT.out, fewB, decide_eq_decide, Hn.out]
        refine ⟨fun q => ⟨q.1, q.2.1⟩, fun q => ⟨q.1, q.2, fun x hx => ?_⟩⟩
        obtain ⟨j, hj, rfl⟩ := List.getElem_of_mem hx
        exact HA.out j hj (by have := Hn.out; omega)
      subst hT2
      have hbn := HN.out
      generalize sB W.nt = N at snt i1
      go_wp2_with fail
      all_goals
        go_ret
        refine ⟨ret_bool ?_, HX.out.2.1⟩
        rw [← snt]
        rw [Bool.eq_iff_iff]
        simp
        omega
end Go.Proofs.YtknfipcegmajaaaDoor
namespace Go.Proofs.YtknfipcegmajaaaDoor
open Go.RowKit
set_option linter.unusedVariables false
set_option linter.unusedSimpArgs false

theorem map_sB_inj {l m : List Tx} : l.map sB = m.map sB ↔ l = m := by
  constructor
  · intro h
    have := congrArg (List.map tx) h
    simpa [List.map_map, Function.comp_def, tx_sB] using this
  · intro h; rw [h]
theorem getD_map_sB (l : List Tx) (j : Nat) (h : j < l.length) : (l.map sB).getD j ByteArray.empty = sB l[j] := by
  simp [List.getD_eq_getElem?_getD, h]
theorem equal_p (l m : List Tx) (va vb : Value) (w : World) (ha : TxR w va l) (hb : TxR w vb m) (hl : l.length < 100000) (hm : m.length < 100000) :
    Calls Tryd.prog 39 #[va, vb] w fun e w' => e = .returned (.bool (decide (l = m))) ∧ Below w.heap.size w w' := by
  obtain ⟨a, c, rfl, _⟩ := ha.len
  obtain ⟨b, d, rfl, _⟩ := hb.len
  by_cases hlen : l.length = m.length
  · by_cases h0 : l.length = 0
    · have e1 : l = [] := List.length_eq_zero_iff.1 h0
      have e2 : m = [] := List.length_eq_zero_iff.1 (by omega)
      subst e1; subst e2
      refine (Tryd.slices_Equal_string_empty a b c 0 d w (by omega)).mono ?_
      rintro e w' ⟨rfl, rfl⟩
      exact ⟨rfl, Below.refl _ _⟩
    · obtain ⟨g1, o1, rfl, hg1, hat1⟩ := tx_at ha (by omega)
      obtain ⟨g2, o2, rfl, hg2, hat2⟩ := tx_at hb (by omega)
      refine (Tryd.slices_Equal_string g1 o1 l.length c g2 o2 m.length d (l.map sB) (m.map sB) w (by simp) (by simp) (by omega) (by omega) (fun j hj => ?_) (fun j hj => ?_)).mono ?_
      · have hj' : j < l.length := by simpa using hj
        rw [getD_map_sB l j hj']; exact hat1 j hj'
      · have hj' : j < m.length := by simpa using hj
        rw [getD_map_sB m j hj']; exact hat2 j hj'
      · rintro e w' ⟨rfl, q, rfl⟩
        refine ⟨ret_bool ?_, below_drewN q⟩
        rw [decide_eq_decide, List.take_of_length_le (by simp), List.take_of_length_le (by simp)]
        exact map_sB_inj
  · refine (Tryd.slices_Equal_string_lens a b l.length c m.length d w hlen).mono ?_
    rintro e w' ⟨rfl, rfl⟩
    exact ⟨ret_bool (decide_eq_false fun q => hlen (by rw [q])).symm, Below.refl _ _⟩
theorem sBl_inj {x y : Tx} : (sB x).toList = (sB y).toList ↔ x = y := by
  rw [Lib.toList_data, Lib.toList_data]
  exact Iff.rfl
set_option maxHeartbeats 1000000 in
theorem of_p (W : Wd) (v : Value) (w : World) (h : WdV w v W) : Calls Tryd.prog 14 #[v] w fun e w' => ∃ v', e = .returned v' ∧ WdV w' v' W ∧ Below w.heap.size w w' := by
  obtain ⟨sl, rfl, h⟩ := h
  obtain ⟨a, c, rfl, hc⟩ := h.len
  have HX : Hid (TxR w (.slice a W.sp.length c) W.sp) := h
  clear h
  go_enter Tryd.func14, Tryd.ntmps14
  go_wp2_with fail
  refine ret_rw (X := w.heap.size + 1) Tryd.results14 rfl rfl ⟨_, nw_at (sza _ _) _, rfl, ?_⟩
  exact ⟨_, rfl, ⟨_, rfl, HX.out.below (bel2 _ _ _)⟩, bel2 _ _ _⟩
set_option maxRecDepth 8000 in
set_option maxHeartbeats 4000000 in
theorem same_p (A B : Wd) (va vb : Value) (w : World) (ha : WdV w va A) (hb : WdV w vb B) (la : A.sp.length < 1000) (lb : B.sp.length < 1000) :
    Calls Tryd.prog 23 #[va, vb] w fun e w' => e = .returned (.bool (sameP A B)) ∧ Below w.heap.size w w' := by
  obtain ⟨sa, rfl, ha⟩ := ha
  obtain ⟨pa, ca, rfl, ha2⟩ := ha.len
  obtain ⟨sb, rfl, hb⟩ := hb
  obtain ⟨pb, cb, rfl, hb2⟩ := hb.len
  have h2 := fun x y => bel2 w (.cells #[.int .i64 A.how, .string x, .slice pa A.sp.length ca, .int .i64 A.pr] 25) (.cells #[.int .i64 B.how, .string y, .slice pb B.sp.length cb, .int .i64 B.pr] 25)
  have hq := fun x y => equal_p A.sp B.sp _ _ _ (ha.below (h2 x y)) (hb.below (h2 x y)) (by omega) (by omega)
  have HQ : Hid _ := And.intro hq h2
  clear hq h2 ha hb
  by_cases h1 : A.how = B.how
  · by_cases h2 : A.nt = B.nt
    · by_cases h3 : A.pr = B.pr
      · have ev : sameP A B = decide (A.sp = B.sp) := by unfold sameP; rw [decide_eq_decide]; exact ⟨fun q => q.2.2.2, fun q => ⟨h1, h2, h3, q⟩⟩
        rw [ev]
        rw [h1, h3] at HQ
        go_enter Tryd.func23, Tryd.ntmps23
        go_wp2_with fail
        refine Calls.mono (HQ.out.1 _ _) ?_
        rintro e w1 ⟨rfl, hb1⟩
        have HB : Hid _ := (HQ.out.2 _ _).trans (hb1.mono (HQ.out.2 _ _).size)
        clear hb1
        go_wp2_with fail
        all_goals
          go_ret
          exact ⟨by first | rfl | simp [*], HB.out⟩
      · have ev : sameP A B = false := by unfold sameP; exact decide_eq_false fun q => h3 q.2.2.1
        have d3 : (A.pr == B.pr) = false := by simpa using h3
        rw [ev]
        go_enter Tryd.func23, Tryd.ntmps23
        go_wp2_with fail
        go_ret
        exact ⟨rfl, bel2 _ _ _⟩
    · have ev : sameP A B = false := by unfold sameP; exact decide_eq_false fun q => h2 q.2.1
      have d2 : ((sB A.nt).toList == (sB B.nt).toList) = false := by simp [sBl_inj, h2]
      rw [ev]
      go_enter Tryd.func23, Tryd.ntmps23
      go_wp2_with fail
      all_goals
        go_ret
        exact ⟨by first | rfl | simp [*], bel2 _ _ _⟩
  · have ev : sameP A B = false := by unfold sameP; exact decide_eq_false fun q => h1 q.1
    have d1 : (A.how == B.how) = false := by simpa using h1
    rw [ev]
    go_enter Tryd.func23, Tryd.ntmps23
    go_wp2_with fail
    go_ret
    exact ⟨rfl, bel2 _ _ _⟩
end Go.Proofs.YtknfipcegmajaaaDoor
namespace Go.Proofs.YtknfipcegmajaaaDoor
open Go.RowKit
set_option linter.unusedVariables false
set_option linter.unusedSimpArgs false

theorem sB_list (x : Tx) : (sB x).toList = x := by rw [Lib.toList_data]; rfl
set_option maxHeartbeats 1000000 in
theorem process_p (p : Tx) (w : World) : Calls Tryd.prog 27 #[eS p] w fun e w' => e = .returned (.int .i64 (prS p)) ∧ w' = w := by
  have hl := sB_list p
  show Calls Tryd.prog 27 #[.string (sB p)] w _
  generalize sB p = N at hl ⊢
  subst hl
  have HD : Hid (prS N.toList = prS N.toList) := rfl
  go_enter Tryd.func27, Tryd.ntmps27
  go_wp2_with fail
  all_goals
    go_ret
    refine ⟨ret_int ?_, rfl⟩
    simp_all [prS, tStrict, tLax, tSkip]
set_option maxHeartbeats 1000000 in
theorem rprocess_p (p : Tx) (w : World) : Calls Tryd.prog 28 #[eS p] w fun e w' => e = .returned (.int .i64 (prS p)) ∧ w' = w := by
  have hl := sB_list p
  show Calls Tryd.prog 28 #[.string (sB p)] w _
  generalize sB p = N at hl ⊢
  subst hl
  go_enter Tryd.func28, Tryd.ntmps28
  go_wp2_with fail
  all_goals
    go_ret
    refine ⟨ret_int ?_, rfl⟩
    simp_all [prS, tStrict, tLax, tSkip]
end Go.Proofs.YtknfipcegmajaaaDoor
namespace Go.Proofs.YtknfipcegmajaaaDoor
open Go.RowKit
set_option linter.unusedVariables false
set_option linter.unusedSimpArgs false

set_option maxHeartbeats 1000000 in
theorem space_p (x t : Tx) (w : World) : Calls Tryd.prog 40 #[eS x, eS t] w fun e w' => e = .returned (.tuple #[eS (spV1 t x), .bool (okB t x)]) ∧ w' = w := by
  have hl := sB_list x
  have hq := Tryd.strings_HasPrefix (sB x) ⟨#[35, 35]⟩ w
  have hh : Lib.hasPrefix (sB x).data.toList [35, 35] = hsB x := rfl
  rw [show (⟨#[35, 35]⟩ : ByteArray).data.toList = [35, 35] from rfl, hh] at hq
  have HQ : Hid _ := hq
  clear hq hh
  show Calls Tryd.prog 40 #[.string (sB x), .string (sB t)] w _
  by_cases h1 : x = tTarget
  · have e1 : spV1 t x = t := by unfold spV1; rw [if_pos h1]
    have e2 : okB t x = true := by unfold okB; rw [if_pos h1]
    rw [e1, e2]
    have d : ((sB x).toList == [35, 35, 116, 97, 114, 103, 101, 116, 78, 97, 109, 101, 115, 112, 97, 99, 101]) = true := by rw [hl, h1]; rfl
    clear hl h1 e1 e2
    generalize sB x = N at d HQ ⊢
    go_enter Tryd.func40, Tryd.ntmps40
    go_wp2_with fail
    all_goals first
      | (go_ret2; exact ⟨rfl, rfl⟩)
      | (exfalso; simp_all)
  by_cases h2 : x = tLocal
  · have e1 : spV1 t x = [] := by unfold spV1; rw [if_neg h1, if_pos h2]
    have e2 : okB t x = true := by unfold okB; rw [if_neg h1, if_pos h2]
    rw [e1, e2]
    have d1 : ¬ (sB x).toList = [35, 35, 116, 97, 114, 103, 101, 116, 78, 97, 109, 101, 115, 112, 97, 99, 101] := by rw [hl]; exact h1
    have d2 : (sB x).toList = [35, 35, 108, 111, 99, 97, 108] := by rw [hl, h2]; rfl
    have HD : Hid _ := And.intro d1 d2
    clear hl h1 h2 e1 e2 d1 d2
    generalize sB x = N at HD HQ ⊢
    go_enter Tryd.func40, Tryd.ntmps40
    go_wp2_with (go_at_call 48; refine Calls.mono HQ.out ?_; rintro e w1 ⟨rfl, rfl⟩)
    all_goals first
      | (go_ret2; exact ⟨rfl, rfl⟩)
      | (exfalso; have := HD.out; simp_all)
      | (exfalso; have := HD.out; simp_all; done)
  · have e1 : spV1 t x = x := by unfold spV1; rw [if_neg h1, if_neg h2]
    have e2 : okB t x = !hsB x := by unfold okB; rw [if_neg h1, if_neg h2]
    rw [e1, e2]
    have d1 : ¬ (sB x).toList = [35, 35, 116, 97, 114, 103, 101, 116, 78, 97, 109, 101, 115, 112, 97, 99, 101] := by rw [hl]; exact h1
    have d2 : ¬ (sB x).toList = [35, 35, 108, 111, 99, 97, 108] := by rw [hl]; exact h2
    have HD : Hid _ := And.intro d1 d2
    clear hl h1 h2 e1 e2 d1 d2
    go_enter Tryd.func40, Tryd.ntmps40
    go_wp2_with (go_at_call 48; refine Calls.mono HQ.out ?_; rintro e w1 ⟨rfl, rfl⟩)
    all_goals first
      | (go_ret2; exact ⟨rfl, rfl⟩)
      | (exfalso; have := HD.out; simp_all)
/-- Words in memory, read alone. -/
def TxL (w : World) (v : Value) (l : List Tx) : Prop := ∃ a cap, v = .slice a l.length cap ∧ (l = [] ∨ ∃ g off, a = some ⟨g, off, none⟩ ∧ g < w.heap.size ∧ ∀ (j : Nat) (hj : j < l.length), w.cell? ⟨g, off + j, none⟩ = some (eS l[j]))
theorem TxL.below {w w' : World} {v : Value} {l : List Tx} (h : TxL w v l) (hb : Below w.heap.size w w') : TxL w' v l := by
  obtain ⟨a, cap, rfl, h⟩ := h
  refine ⟨a, cap, rfl, ?_⟩
  rcases h with h | ⟨g, off, rfl, hg, h⟩
  · exact .inl h
  · exact .inr ⟨g, off, rfl, by have := hb.size; omega, fun j hj => (hb.cell (p := ⟨g, off + j, none⟩) hg).trans (h j hj)⟩
theorem txl_at {w : World} {a : Option Addr} {c n : Nat} {l : List Tx} (h : TxL w (.slice a n c) l) (hn : 0 < n) : ∃ g off, a = some ⟨g, off, none⟩ ∧ g < w.heap.size ∧ ∀ (j : Nat) (hj : j < l.length), w.cell? ⟨g, off + j, none⟩ = some (.string (sB l[j])) := by
  obtain ⟨a', c', e, h⟩ := h
  simp only [Value.slice.injEq] at e
  obtain ⟨rfl, rfl, rfl⟩ := e
  rcases h with h | h
  · subst h; simp at hn
  · exact h
theorem sts_txl {w : World} {a : Option Addr} {c : Nat} {ps : List ByteArray} (h : Ch.Sts w a ps) : TxL w (.slice a ps.length c) (ps.map tx) := by
  refine ⟨a, c, by simp, ?_⟩
  rcases h with h | ⟨b, rfl, h⟩
  · left; simp [h]
  · by_cases h0 : ps = []
    · left; simp [h0]
    · have hp := List.length_pos_iff.2 h0
      refine .inr ⟨b, 0, rfl, World.block_lt_of_cell? w _ (h 0 hp), fun j hj => ?_⟩
      have hj' : j < ps.length := by simpa using hj
      rw [Nat.zero_add, h j hj']
      simp [List.getD_eq_getElem?_getD, hj']
      rfl
end Go.Proofs.YtknfipcegmajaaaDoor
namespace Go.Proofs.YtknfipcegmajaaaDoor
open Go.RowKit
set_option linter.unusedVariables false
set_option linter.unusedSimpArgs false

abbrev bxR (W : Wd) (sl : Value) : Obj := .cells #[.int .i64 W.how, .string (sB W.nt), sl, .int .i64 W.pr] 29
set_option maxRecDepth 8000 in
set_option maxHeartbeats 4000000 in
theorem rallows_p (W : Wd) (x : Tx) (v : Value) (w : World) (h : WdV w v W) (hl : W.sp.length < 100000) : Calls Tryd.prog 20 #[v, eS x] w fun e w' => e = .returned (.bool (rallows W x)) ∧ Below w.heap.size w w' := by
  obtain ⟨sl, rfl, h⟩ := h
  obtain ⟨a, c, rfl, hc⟩ := h.len
  have hb0 : Below w.heap.size w (w.alloc (.cells #[.int .i64 W.how, .string (sB W.nt), .slice a W.sp.length c, .int .i64 W.pr] 29)) := bel1 _ _
  by_cases h1 : W.how = 1
  · have ev : rallows W x = true := by unfold rallows; rw [if_pos h1]
    rw [ev]
    have HB : Hid _ := hb0
    clear h hb0
    go_enter Tryd.func20, Tryd.ntmps20
    go_wp2_with fail
    go_ret
    exact ⟨rfl, bel1 _ _⟩
  have d1 : (W.how == 1) = false := by simpa using h1
  by_cases h2 : W.how = 2
  · have ev : rallows W x = (decide (x ≠ []) && decide (x ≠ W.nt)) := by unfold rallows; rw [if_neg h1, if_pos h2]
    rw [ev]
    have en := emp_dec x
    have ee : ((sB x).toList == (sB W.nt).toList) = decide (x = W.nt) := by
      by_cases g : x = W.nt
      · simp [g]
      · rw [decide_eq_false g]; simp [sBl_inj, g]
    clear h hb0
    go_enter Tryd.func20, Tryd.ntmps20
    go_wp2_with fail
    all_goals
      go_ret
      exact ⟨ret_bool (by simp_all [sBl_inj]), bel1 _ _⟩
  have d2 : (W.how == 2) = false := by simpa using h2
  have ev : rallows W x = decide (x ∈ W.sp) := by unfold rallows; rw [if_neg h1, if_neg h2]
  rw [ev]
  obtain ⟨T, hT⟩ : ∃ T, decide (x ∈ W.sp) = T := ⟨_, rfl⟩
  rw [hT]
  have HT : Hid _ := hT
  clear hT ev
  have hx := nw_heap w (.cells #[.int .i64 W.how, .string (sB W.nt), .slice a W.sp.length c, .int .i64 W.pr] 29)
  have HX : Hid _ := And.intro (h.below hb0) hb0
  clear h hb0
  go_enter Tryd.func20, Tryd.ntmps20
  go_wp2_with fail
  generalize (w.alloc (.cells #[.int .i64 W.how, .string (sB W.nt), .slice a W.sp.length c, .int .i64 W.pr] 29)) = U at HX hx ⊢
  obtain ⟨i0, i1, i2, i3⟩ : U.cell? ⟨w.heap.size, 0, none⟩ = some (.int .i64 W.how) ∧ U.cell? ⟨w.heap.size, 1, none⟩ = some (.string (sB W.nt)) ∧ U.cell? ⟨w.heap.size, 2, none⟩ = some (.slice a W.sp.length c) ∧ U.cell? ⟨w.heap.size, 3, none⟩ = some (.int .i64 W.pr) := (blk4 hx).1
  clear hx i0 i1 i3
  generalize hnn : W.sp.length = n at hl hc HX i2 ⊢
  have Hn : Hid (W.sp.length = n) := hnn
  clear hnn
  go_loopg [5] n (fun g v5 wr => ∃ k : Nat, k + g = n ∧ v5 = .int .i64 (k : Int) ∧ x ∉ W.sp.take k ∧ wr = U)
  case atStart => exact ⟨0, by omega, rfl, by simp, rfl⟩
  case round =>
    obtain ⟨k, hk, rfl, hall, hw⟩ := hrel
    subst hw
    have HA : Hid _ := hall
    clear hall
    by_cases hlt : k < n
    · obtain ⟨gg, rfl⟩ : ∃ gg, gk = gg + 1 := ⟨gk - 1, by omega⟩
      have hkl : k < W.sp.length := by rw [Hn.out]; exact hlt
      obtain ⟨g0, off, rfl, hg0, hat⟩ := tx_at HX.out.1 (by omega)
      have e0 := hat k hkl
      change wr.cell? _ = some (.string (sB W.sp[k])) at e0
      have hts := take_snoc hkl
      obtain ⟨y, hy⟩ : ∃ y, W.sp[k] = y := ⟨_, rfl⟩
      have hmem : y ∈ W.sp := by rw [← hy]; exact List.getElem_mem hkl
      rw [hy] at e0 hts
      have HY : Hid _ := And.intro hts hmem
      clear hat hy hts hmem
      by_cases hq : y = x
      · have ht : T = true := by rw [← HT.out, ← hq]; exact decide_eq_true HY.out.2
        subst ht
        subst hq
        go_wp2_with fail
        go_ret
        exact ⟨rfl, HX.out.2⟩
      · have de : ((sB y).toList == (sB x).toList) = false := by simp [sBl_inj, hq]
        have hnx : x ∉ W.sp.take (k + 1) := by
          rw [HY.out.1, List.mem_append, List.mem_singleton]
          rintro (g | g)
          · exact HA.out g
          · exact hq g.symm
        have HN : Hid _ := hnx
        clear hnx
        go_wp2_with fail
        all_goals first
          | (go_roundg gg
             case measure => omega
             case rel => exact ⟨k + 1, by omega, by go_num, HN.out, rfl⟩)
          | (exfalso; simp_all [sBl_inj])
    · have ht : T = false := by
        rw [← HT.out]
        have := HA.out
        rw [List.take_of_length_le (by rw [Hn.out]; omega)] at this
        exact decide_eq_false this
      subst ht
      go_wp2_with fail
      go_ret
      exact ⟨rfl, HX.out.2⟩
end Go.Proofs.YtknfipcegmajaaaDoor
namespace Go.Proofs.YtknfipcegmajaaaDoor
open Go.RowKit
set_option linter.unusedVariables false
set_option linter.unusedSimpArgs false

set_option maxRecDepth 8000 in
set_option maxHeartbeats 8000000 in
theorem rright_p (W : Wd) (v : Value) (w : World) (h : WdV w v W) (hl : W.sp.length < 100000) : Calls Tryd.prog 13 #[v] w fun e w' => e = .returned (.bool (rgtB W)) ∧ Below w.heap.size w w' := by
  obtain ⟨sl, rfl, h⟩ := h
  obtain ⟨a, c, rfl, hc⟩ := h.len
  have hb0 : Below w.heap.size w (w.alloc (.cells #[.int .i64 W.how, .string (sB W.nt), .slice a W.sp.length c, .int .i64 W.pr] 29)) := bel1 _ _
  have HX : Hid _ := And.intro (h.below hb0) hb0
  have hx := nw_heap w (.cells #[.int .i64 W.how, .string (sB W.nt), .slice a W.sp.length c, .int .i64 W.pr] 29)
  have HH : Hid _ := hx
  clear hx h hb0
  have en := emp_dec W.nt
  by_cases a1 : W.how < 1
  · have ev : rgtB W = false := by unfold rgtB; exact decide_eq_false (by omega)
    rw [ev]
    clear HX HH
    go_enter Tryd.func13, Tryd.ntmps13
    go_wp2_with fail
    all_goals
      go_ret
      exact ⟨rfl, bel1 _ _⟩
  by_cases a2 : 3 < W.how
  · have d2 : decide (W.how > 3) = true := decide_eq_true a2
    have ev : rgtB W = false := by unfold rgtB; exact decide_eq_false (by omega)
    rw [ev]
    clear HX HH
    go_enter Tryd.func13, Tryd.ntmps13
    go_wp2_with fail
    all_goals
      go_ret
      exact ⟨rfl, bel1 _ _⟩
  have a2' : decide (W.how > 3) = false := decide_eq_false a2
  by_cases a3 : W.pr < 1
  · have ev : rgtB W = false := by unfold rgtB; exact decide_eq_false (by omega)
    rw [ev]
    clear HX HH
    go_enter Tryd.func13, Tryd.ntmps13
    go_wp2_with fail
    all_goals
      go_ret
      exact ⟨rfl, bel1 _ _⟩
  by_cases a4 : 3 < W.pr
  · have d4 : decide (W.pr > 3) = true := decide_eq_true a4
    have ev : rgtB W = false := by unfold rgtB; exact decide_eq_false (by omega)
    rw [ev]
    clear HX HH
    go_enter Tryd.func13, Tryd.ntmps13
    go_wp2_with fail
    all_goals
      go_ret
      exact ⟨rfl, bel1 _ _⟩
  have a4' : decide (W.pr > 3) = false := decide_eq_false a4
  by_cases h2 : W.how = 2
  · have d5 : (W.how != 2) = false := by simp [h2]
    have d6 : (W.how != 3) = true := by simp [h2]
    by_cases hs : W.sp = []
    · have d7 : ¬ 0 < W.sp.length := by simp [hs]
      have ev : rgtB W = true := by
        (try have hn := HN0.out)
        unfold rgtB
        exact decide_eq_true ⟨by omega, by omega, by simp_all, by simp_all, by rw [hs]; exact inc_nil⟩
      rw [ev]
      have hx0 := nw_heap w (.cells #[.int .i64 2, .string (sB W.nt), .slice a 0 c, .int .i64 W.pr] 29)
      have hb0 := bel1 w (.cells #[.int .i64 2, .string (sB W.nt), .slice a 0 c, .int .i64 W.pr] 29)
      clear HX HH
      have HB : Hid _ := hb0
      clear hb0
      go_enter Tryd.func13, Tryd.ntmps13
      go_wp2_with fail
      generalize (w.alloc (.cells #[.int .i64 2, .string (sB W.nt), .slice a 0 c, .int .i64 W.pr] 29)) = U at HB hx0 ⊢
      obtain ⟨i0, i1, i2, i3⟩ := (blk4 hx0).1
      clear i0 i1 i3
      go_loop [3] (fun v3 => ∃ k : Nat, v3 = .int .i64 (k : Int) ∧ k = 1) (fun _ => 0)
      case atStart => exact ⟨1, rfl, rfl⟩
      case round =>
        obtain ⟨k, rfl, rfl⟩ := hrel
        go_wp2_with fail
        go_ret
        exact ⟨rfl, HB.out⟩
    · have d7 : 0 < W.sp.length := List.length_pos_iff.2 hs
      have ev : rgtB W = false := by unfold rgtB; exact decide_eq_false (fun q => hs (q.2.2.2.1 (by omega)))
      rw [ev]
      clear HX HH
      go_enter Tryd.func13, Tryd.ntmps13
      go_wp2_with fail
      all_goals
        go_ret
        exact ⟨rfl, bel1 _ _⟩
  have d5 : (W.how != 2) = true := by simp [h2]
  by_cases hn : W.nt = []
  · have en' : (sB W.nt).toList.isEmpty = true := by rw [en]; exact decide_eq_true hn
    have HN0 : Hid (W.nt = []) := hn
    clear hn en
    by_cases h3 : W.how = 3
    · have d6 : (W.how != 3) = false := by simp [h3]
      have ev : rgtB W = decide (Inc W.sp) := by
        (try have hn := HN0.out)
        unfold rgtB
        rw [decide_eq_decide]
        exact ⟨fun q => q.2.2.2.2, fun q => ⟨by omega, by omega, by simp_all, by simp_all, q⟩⟩
      rw [ev]
      obtain ⟨T, hT⟩ : ∃ T, decide (Inc W.sp) = T := ⟨_, rfl⟩
      rw [hT]
      have HT : Hid _ := hT
      clear hT ev
      go_enter Tryd.func13, Tryd.ntmps13
      go_wp2_with fail
      simp only [h3] at HX HH
      generalize (w.alloc (.cells #[.int .i64 3, .string (sB W.nt), .slice a W.sp.length c, .int .i64 W.pr] 29)) = U at HX HH ⊢
      obtain ⟨i0, i1, i2, i3⟩ := (blk4 HH.out).1
      clear i0 i1 i3
      generalize hnn : W.sp.length = n at hl hc HX i2 ⊢
      have Hn : Hid (W.sp.length = n) := hnn
      clear hnn
      go_loopg [3] (n + 1) (fun g v3 wr => ∃ k : Nat, k + g = n + 1 ∧ v3 = .int .i64 ((k : Int) + 1) ∧ (∀ j (h : j + 1 < W.sp.length), j + 1 ≤ k → W.sp[j]'(by omega) < W.sp[j + 1]) ∧ Below U.heap.size U wr)
      case atStart => exact ⟨0, by omega, rfl, fun j h hj => by omega, Below.refl _ _⟩
      case round =>
        obtain ⟨k, hk, rfl, hall, hb⟩ := hrel
        have HB : Hid _ := And.intro hall hb
        have j2 : wr.cell? ⟨w.heap.size, 2, none⟩ = some (.slice a n c) := (hb.cell (p := ⟨w.heap.size, 2, none⟩) (lt_of HH.out)).trans i2
        clear hall hb i2
        by_cases hlt : k + 1 < n
        · obtain ⟨gg, rfl⟩ : ∃ gg, gk = gg + 1 := ⟨gk - 1, by omega⟩
          have hkl : k + 1 < W.sp.length := by rw [Hn.out]; exact hlt
          obtain ⟨g0, off, rfl, hg0, hat⟩ := tx_at HX.out.1 (by omega)
          have e0 : wr.cell? ⟨g0, off + k, none⟩ = some (.string (sB (W.sp[k]'(by omega)))) := (HB.out.2.cell (p := ⟨g0, off + k, none⟩) hg0).trans (hat k _)
          have e1 : wr.cell? ⟨g0, off + (k + 1), none⟩ = some (.string (sB W.sp[k + 1])) := (HB.out.2.cell (p := ⟨g0, off + (k + 1), none⟩) hg0).trans (hat (k + 1) hkl)
          have hle := less_eq (W.sp[k]'(by omega)) W.sp[k + 1]
          by_cases hq : W.sp[k]'(by omega) < W.sp[k + 1]
          · rw [decide_eq_true hq] at hle
            have hstep : ∀ j (h : j + 1 < W.sp.length), j + 1 ≤ k + 1 → W.sp[j]'(by omega) < W.sp[j + 1] := fun j h hj => by
              by_cases e : j = k
              · subst e; exact hq
              · exact HB.out.1 j h (by omega)
            have HS : Hid _ := hstep
            clear hstep hq
            generalize W.sp[k]'(by omega) = x at e0 hle
            generalize W.sp[k + 1] = y at e1 hle
            clear hat
            go_wp2_with fail
            go_quiet (fail)
            go_wp2_with fail
            go_roundg gg
            case measure => omega
            case rel => exact ⟨k + 1, by omega, by go_num, HS.out, bdrewN HB.out.2 _⟩
          · rw [decide_eq_false hq] at hle
            have hf : T = false := by
              rw [← HT.out]
              exact decide_eq_false fun q => hq (adj_inc q k hkl)
            subst hf
            generalize W.sp[k]'(by omega) = x at e0 hle
            generalize W.sp[k + 1] = y at e1 hle
            clear hat hq
            go_wp2_with fail
            go_quiet (fail)
            go_wp2_with fail
            go_ret
            exact ⟨rfl, HX.out.2.trans ((bdrewN HB.out.2 _).mono HX.out.2.size)⟩
        · have ht : T = true := by
            rw [← HT.out]
            exact decide_eq_true (inc_adj fun j h => HB.out.1 j h (by have := Hn.out; omega))
          subst ht
          go_wp2_with fail
          go_ret
          exact ⟨rfl, HX.out.2.trans (HB.out.2.mono HX.out.2.size)⟩
    · have h1 : W.how = 1 := by omega
      have d6 : (W.how != 3) = true := by simp [h3]
      by_cases hs : W.sp = []
      · have d7 : ¬ 0 < W.sp.length := by simp [hs]
        have ev : rgtB W = true := by
          (try have hn := HN0.out)
          unfold rgtB
          exact decide_eq_true ⟨by omega, by omega, by simp_all, by simp_all, by rw [hs]; exact inc_nil⟩
        rw [ev]
        have hx0 := nw_heap w (.cells #[.int .i64 1, .string (sB W.nt), .slice a 0 c, .int .i64 W.pr] 29)
        have hb0 := bel1 w (.cells #[.int .i64 1, .string (sB W.nt), .slice a 0 c, .int .i64 W.pr] 29)
        clear HX HH
        have HB : Hid _ := hb0
        clear hb0
        go_enter Tryd.func13, Tryd.ntmps13
        go_wp2_with fail
        generalize (w.alloc (.cells #[.int .i64 1, .string (sB W.nt), .slice a 0 c, .int .i64 W.pr] 29)) = U at HB hx0 ⊢
        obtain ⟨i0, i1, i2, i3⟩ := (blk4 hx0).1
        clear i0 i1 i3
        go_loop [3] (fun v3 => ∃ k : Nat, v3 = .int .i64 (k : Int) ∧ k = 1) (fun _ => 0)
        case atStart => exact ⟨1, rfl, rfl⟩
        case round =>
          obtain ⟨k, rfl, rfl⟩ := hrel
          go_wp2_with fail
          go_ret
          exact ⟨rfl, HB.out⟩
      · have d7 : 0 < W.sp.length := List.length_pos_iff.2 hs
        have ev : rgtB W = false := by unfold rgtB; exact decide_eq_false (fun q => hs (q.2.2.2.1 (by omega)))
        rw [ev]
        clear HX HH
        go_enter Tryd.func13, Tryd.ntmps13
        go_wp2_with fail
        all_goals
          go_ret
          exact ⟨rfl, bel1 _ _⟩
  · have en' : (sB W.nt).toList.isEmpty = false := by rw [en]; exact decide_eq_false hn
    have ev : rgtB W = false := by unfold rgtB; exact decide_eq_false (fun q => hn (q.2.2.1 (by omega)))
    rw [ev]
    clear HX HH
    go_enter Tryd.func13, Tryd.ntmps13
    go_wp2_with fail
    all_goals
      go_ret
      exact ⟨rfl, bel1 _ _⟩
end Go.Proofs.YtknfipcegmajaaaDoor
namespace Go.Proofs.YtknfipcegmajaaaDoor
open Go.RowKit
set_option linter.unusedVariables false
set_option linter.unusedSimpArgs false

theorem all_snoc {l : List Tx} {k : Nat} (h : k < l.length) (p : Tx → Bool) : (l.take (k + 1)).all p = ((l.take k).all p && p l[k]) := by
  rw [take_snoc h, List.all_append]; simp
set_option maxRecDepth 8000 in
set_option maxHeartbeats 4000000 in
theorem rsub_these (A B : Wd) (va vb : Value) (w : World) (ha : WdV w va A) (hb : WdV w vb B) (h3 : A.how = 3) (la : A.sp.length < 1000) (lb : B.sp.length < 1000) :
    Calls Tryd.prog 22 #[va, vb] w fun e w' => e = .returned (.bool (rsub A B)) ∧ Below w.heap.size w w' := by
  obtain ⟨sa, rfl, ha⟩ := ha
  obtain ⟨pa, ca, rfl, ha2⟩ := ha.len
  obtain ⟨sb, rfl, hb⟩ := hb
  obtain ⟨pb, cb, rfl, hb2⟩ := hb.len
  have ev : rsub A B = A.sp.all (rallows B) := by unfold rsub; rw [if_pos h3]
  rw [ev]
  obtain ⟨T, hT⟩ : ∃ T, A.sp.all (rallows B) = T := ⟨_, rfl⟩
  rw [hT]
  have HT : Hid _ := hT
  clear hT ev
  have hxa : ((w.alloc (.cells #[.int .i64 3, .string (sB A.nt), .slice pa A.sp.length ca, .int .i64 A.pr] 29)).alloc (bxR B (.slice pb B.sp.length cb))).heap[w.heap.size]? = some (.cells #[.int .i64 3, .string (sB A.nt), .slice pa A.sp.length ca, .int .i64 A.pr] 29 (0, 0)) := nw_below (nw_heap _ _)
  have hxb : ((w.alloc (.cells #[.int .i64 3, .string (sB A.nt), .slice pa A.sp.length ca, .int .i64 A.pr] 29)).alloc (bxR B (.slice pb B.sp.length cb))).heap[w.heap.size + 1]? = some (bxR B (.slice pb B.sp.length cb)) := nw_at (sza _ _) _
  have hb0 : Below w.heap.size w ((w.alloc (.cells #[.int .i64 3, .string (sB A.nt), .slice pa A.sp.length ca, .int .i64 A.pr] 29)).alloc (bxR B (.slice pb B.sp.length cb))) := bel2 _ _ _
  have HX : Hid _ := And.intro hxa hxb
  have HR : Hid _ := And.intro (ha.below hb0) (And.intro (hb.below hb0) hb0)
  clear hxa hxb hb0 ha hb
  go_enter Tryd.func22, Tryd.ntmps22
  go_wp2_with fail
  generalize ((w.alloc (.cells #[.int .i64 3, .string (sB A.nt), .slice pa A.sp.length ca, .int .i64 A.pr] 29)).alloc (bxR B (.slice pb B.sp.length cb))) = U at HX HR ⊢
  have HK : Hid (∀ W, Below U.heap.size U W → (W.cell? ⟨w.heap.size, 2, none⟩ = some (.slice pa A.sp.length ca) ∧ W.cell? ⟨w.heap.size + 1, 0, none⟩ = some (.int .i64 B.how) ∧ W.cell? ⟨w.heap.size + 1, 1, none⟩ = some (.string (sB B.nt)) ∧ W.cell? ⟨w.heap.size + 1, 2, none⟩ = some (.slice pb B.sp.length cb) ∧ W.cell? ⟨w.heap.size + 1, 3, none⟩ = some (.int .i64 B.pr))) := fun W hW => by
    have h1 := (hW.block _ (lt_of HX.out.1)).trans HX.out.1
    have h2 := (hW.block _ (lt_of HX.out.2)).trans HX.out.2
    exact ⟨cell_blk h1 rfl, cell_blk h2 rfl, cell_blk h2 rfl, cell_blk h2 rfl, cell_blk h2 rfl⟩
  generalize hnn : A.sp.length = n at la ha2 HX HR HK ⊢
  have Hn : Hid (A.sp.length = n) := hnn
  clear hnn h3
  go_loopg [5] n (fun g v5 wr => ∃ k : Nat, k + g = n ∧ v5 = .int .i64 (k : Int) ∧ (A.sp.take k).all (rallows B) = true ∧ Below U.heap.size U wr)
  case atStart => exact ⟨0, by omega, rfl, rfl, Below.refl _ _⟩
  case round =>
    obtain ⟨k, hk, rfl, hall, hb⟩ := hrel
    obtain ⟨a2, b0, b1, b2, b3⟩ := HK.out wr hb
    have HB0 : Hid _ := And.intro hall hb
    clear hall hb
    by_cases hlt : k < n
    · obtain ⟨gg, rfl⟩ : ∃ gg, gk = gg + 1 := ⟨gk - 1, by omega⟩
      have hkl : k < A.sp.length := by rw [Hn.out]; exact hlt
      obtain ⟨g0, off, rfl, hg0, hat⟩ := tx_at HR.out.1 (by omega)
      have HE : Hid (∀ W, Below U.heap.size U W → W.cell? ⟨g0, off + k, none⟩ = some (.string (sB (A.sp[k]'hkl)))) := fun W hW => (hW.cell (p := ⟨g0, off + k, none⟩) hg0).trans (hat k hkl)
      have hal := all_snoc hkl (rallows B)
      have hmem := List.getElem_mem hkl
      obtain ⟨x, hx⟩ : ∃ x, A.sp[k] = x := ⟨_, rfl⟩
      rw [hx] at HE hal hmem
      have e0 := HE.out wr HB0.out.2
      have HA : Hid _ := And.intro hal hmem
      clear hat hx hal hmem
      have HB : Hid (Below U.heap.size U wr.drew) := HB0.out.2.drew
      go_upto_region 5 with fail
      go_region_held3 (fun W => W.cell? ⟨w.heap.size, 2, none⟩ = some (.slice (some ⟨g0, off, none⟩) n ca) ∧ W.cell? ⟨w.heap.size + 1, 0, none⟩ = some (.int .i64 B.how) ∧ W.cell? ⟨w.heap.size + 1, 1, none⟩ = some (.string (sB B.nt)) ∧ W.cell? ⟨w.heap.size + 1, 2, none⟩ = some (.slice pb B.sp.length cb) ∧ W.cell? ⟨w.heap.size + 1, 3, none⟩ = some (.int .i64 B.pr) ∧ W.cell? ⟨g0, off + k, none⟩ = some (.string (sB x))) (first | exact ⟨a2, b0, b1, b2, b3, e0⟩ | go_keep) (first
        | (go_at_call 20; have hq := rallows_p B x (wdV B (.slice pb B.sp.length cb)) _ ⟨_, rfl, HR.out.2.1.below HB.out⟩ (by omega); (with_reducible refine Calls.mono hq ?_); clear hq; rintro e w4 ⟨rfl, hb4⟩; have hbb := HB.out.trans (hb4.mono HB.out.size); clear HB a2 b0 b1 b2 b3 e0; obtain ⟨a2, b0, b1, b2, b3⟩ := HK.out _ hbb; have e0 := HE.out _ hbb; have HB : Hid _ := hbb; clear hbb hb4))
      all_goals
        by_cases hr : rallows B x = true
        · rw [hr]
          have hal := HA.out.1
          rw [HB0.out.1, hr] at hal
          have HS : Hid _ := hal
          clear hal
          go_wp2_with fail
          go_roundg gg
          case measure => omega
          case rel => exact ⟨k + 1, by omega, by go_num, HS.out, HB.out⟩
        · have hr' : rallows B x = false := by simpa using hr
          rw [hr']
          have hf : T = false := by
            rw [← HT.out, Bool.eq_false_iff]
            intro q
            exact hr (List.all_eq_true.1 q x HA.out.2)
          subst hf
          go_wp2_with fail
          go_ret
          exact ⟨rfl, HR.out.2.2.trans (HB.out.mono HR.out.2.2.size)⟩
    · have ht : T = true := by
        rw [← HT.out]
        have := HB0.out.1
        rw [List.take_of_length_le (by rw [Hn.out]; omega)] at this
        exact this
      subst ht
      go_wp2_with fail
      go_ret
      exact ⟨rfl, HR.out.2.2.trans (HB0.out.2.mono HR.out.2.2.size)⟩
set_option maxRecDepth 8000 in
set_option maxHeartbeats 4000000 in
theorem rsub_p (A B : Wd) (va vb : Value) (w : World) (ha : WdV w va A) (hb : WdV w vb B) (la : A.sp.length < 1000) (lb : B.sp.length < 1000) :
    Calls Tryd.prog 22 #[va, vb] w fun e w' => e = .returned (.bool (rsub A B)) ∧ Below w.heap.size w w' := by
  by_cases h3 : A.how = 3
  · exact rsub_these A B va vb w ha hb h3 la lb
  obtain ⟨sa, rfl, ha⟩ := ha
  obtain ⟨pa, ca, rfl, ha2⟩ := ha.len
  obtain ⟨sb, rfl, hb⟩ := hb
  obtain ⟨pb, cb, rfl, hb2⟩ := hb.len
  clear ha hb
  have d3 : (A.how == 3) = false := by simpa using h3
  have ev : rsub A B = decide (B.how = 1 ∨ A.how = 2 ∧ B.how = 2 ∧ (B.nt = [] ∨ A.nt = B.nt)) := by unfold rsub; rw [if_neg h3]
  rw [ev]
  by_cases h1 : B.how = 1
  · have e1 : decide (B.how = 1 ∨ A.how = 2 ∧ B.how = 2 ∧ (B.nt = [] ∨ A.nt = B.nt)) = true := decide_eq_true (.inl h1)
    rw [e1]
    go_enter Tryd.func22, Tryd.ntmps22
    go_wp2_with fail
    all_goals
      go_ret
      exact ⟨rfl, bel2 _ _ _⟩
  have d1 : (B.how == 1) = false := by simpa using h1
  by_cases h2 : A.how = 2
  · by_cases h4 : B.how = 2
    · have e1 : decide (B.how = 1 ∨ A.how = 2 ∧ B.how = 2 ∧ (B.nt = [] ∨ A.nt = B.nt)) = (decide (B.nt = []) || decide (A.nt = B.nt)) := by simp [h2, h4]
      rw [e1]
      have en : ((sB B.nt).toList.isEmpty) = decide (B.nt = []) := emp_dec _
      have ee : ((sB A.nt).toList == (sB B.nt).toList) = decide (A.nt = B.nt) := by
        by_cases g : A.nt = B.nt
        · simp [g]
        · rw [decide_eq_false g]; simp [sBl_inj, g]
      go_enter Tryd.func22, Tryd.ntmps22
      go_wp2_with fail
      all_goals
        go_ret
        exact ⟨ret_bool (by simp_all [sBl_inj]), bel2 _ _ _⟩
    · have d4 : (B.how == 2) = false := by simpa using h4
      have e1 : decide (B.how = 1 ∨ A.how = 2 ∧ B.how = 2 ∧ (B.nt = [] ∨ A.nt = B.nt)) = false := by simp [h1, h4]
      rw [e1]
      go_enter Tryd.func22, Tryd.ntmps22
      go_wp2_with fail
      all_goals
        go_ret
        exact ⟨rfl, bel2 _ _ _⟩
  · have d4 : (A.how == 2) = false := by simpa using h2
    have e1 : decide (B.how = 1 ∨ A.how = 2 ∧ B.how = 2 ∧ (B.nt = [] ∨ A.nt = B.nt)) = false := by simp [h1, h2]
    rw [e1]
    go_enter Tryd.func22, Tryd.ntmps22
    go_wp2_with fail
    all_goals
      go_ret
      exact ⟨rfl, bel2 _ _ _⟩
end Go.Proofs.YtknfipcegmajaaaDoor
namespace Go.Proofs.YtknfipcegmajaaaDoor
open Go.RowKit
set_option linter.unusedVariables false
set_option linter.unusedSimpArgs false

def PsQ (r : Wd × Bool) (w : World) (e : Ending) (w' : World) : Prop := ∃ v', e = .returned (.tuple #[v', .bool r.2]) ∧ WdV w' v' r.1 ∧ Below w.heap.size w w'
set_option maxRecDepth 8000 in
set_option maxHeartbeats 4000000 in
theorem spaces_nil (t : Tx) (a : Option Addr) (c : Nat) (w : World) : Calls Tryd.prog 25 #[.slice a 0 c, eS t] w fun e w' => PsQ (parS [] t) w e w' := by
  go_enter Tryd.func25, Tryd.ntmps25
  go_wp2_with fail
  refine ret_w2 (X := w.heap.size) Tryd.results25 rfl rfl ⟨_, nw_heap _ _, rfl, ?_⟩
  exact ⟨_, rfl, ⟨_, rfl, TxR.nil _ _ _⟩, bel1 _ _⟩
set_option maxRecDepth 8000 in
set_option maxHeartbeats 4000000 in
theorem spaces_any (t : Tx) (v : Value) (w : World) (h : TxL w v [tAny]) : Calls Tryd.prog 25 #[v, eS t] w fun e w' => PsQ (parS [tAny] t) w e w' := by
  obtain ⟨a, c, rfl, h'⟩ := h
  obtain ⟨g, off, rfl, hg, hat⟩ := txl_at ⟨a, c, rfl, h'⟩ (by decide)
  have e0 : (w.alloc (.cells #[.int .i64 0, .string ⟨#[]⟩, .slice none 0 0, .int .i64 0] 25)).cell? ⟨g, off, none⟩ = some (.string (sB tAny)) := ((bel1 w _).cell (p := ⟨g, off, none⟩) hg).trans (hat 0 (by decide))
  clear h' hat
  have hl := sB_list tAny
  generalize sB tAny = N at e0 hl
  unfold tAny at hl
  go_enter Tryd.func25, Tryd.ntmps25
  go_wp2_with fail
  refine ret_w2 (X := w.heap.size) Tryd.results25 rfl rfl ⟨_, nw_heap _ _, rfl, ?_⟩
  exact ⟨_, rfl, ⟨_, rfl, TxR.nil _ _ _⟩, bel1 _ _⟩
set_option maxRecDepth 8000 in
set_option maxHeartbeats 4000000 in
theorem spaces_other (t : Tx) (v : Value) (w : World) (h : TxL w v [tOther]) : Calls Tryd.prog 25 #[v, eS t] w fun e w' => PsQ (parS [tOther] t) w e w' := by
  obtain ⟨a, c, rfl, h'⟩ := h
  obtain ⟨g, off, rfl, hg, hat⟩ := txl_at ⟨a, c, rfl, h'⟩ (by decide)
  have e0 : (w.alloc (.cells #[.int .i64 0, .string ⟨#[]⟩, .slice none 0 0, .int .i64 0] 25)).cell? ⟨g, off, none⟩ = some (.string (sB tOther)) := ((bel1 w _).cell (p := ⟨g, off, none⟩) hg).trans (hat 0 (by decide))
  clear h' hat
  have hl := sB_list tOther
  generalize sB tOther = N at e0 hl
  unfold tOther at hl
  go_enter Tryd.func25, Tryd.ntmps25
  go_wp2_with fail
  refine ret_w2 (X := w.heap.size) Tryd.results25 rfl rfl ⟨_, nw_heap _ _, rfl, ?_⟩
  exact ⟨_, rfl, ⟨_, rfl, TxR.nil _ _ _⟩, bel1 _ _⟩
set_option maxRecDepth 8000 in
set_option maxHeartbeats 4000000 in
theorem spaces_gen (ws : List Tx) (t : Tx) (v : Value) (w : World) (h : TxL w v ws) (hn0 : ws ≠ []) (hl : ws.length ≤ 5000) (h1 : ws ≠ [tAny]) (h2 : ws ≠ [tOther]) : Calls Tryd.prog 25 #[v, eS t] w fun e w' => PsQ (parS ws t) w e w' := by
  obtain ⟨i0, hi0, hz0, hz1, hz2⟩ := info_sp
  have hp := List.length_pos_iff.2 hn0
  obtain ⟨a, c, rfl, h'⟩ := h
  obtain ⟨g, off, rfl, hg, hat⟩ := txl_at ⟨a, c, rfl, h'⟩ hp
  have hat' : ∀ j y, ws[j]? = some y → w.cell? ⟨g, off + j, none⟩ = some (.string (sB y)) := fun j y hy => by
    obtain ⟨hj, rfl⟩ := List.getElem?_eq_some_iff.1 hy
    exact hat j hj
  obtain ⟨x, l, rfl⟩ : ∃ x l, ws = x :: l := by
    cases ws with
    | nil => exact absurd rfl hn0
    | cons x l => exact ⟨x, l, rfl⟩
  have e0 : (w.alloc (.cells #[.int .i64 0, .string ⟨#[]⟩, .slice none 0 0, .int .i64 0] 25)).cell? ⟨g, off, none⟩ = some (.string (sB x)) := ((bel1 w _).cell (p := ⟨g, off, none⟩) hg).trans (hat' 0 x rfl)
  have k1 : (x :: l).length = 1 → ¬ (sB x).toList = [35, 35, 97, 110, 121] := fun q e => by
    rw [sB_list] at e
    have : l = [] := by simpa using q
    exact h1 (by rw [this, e]; rfl)
  have k2 : (x :: l).length = 1 → ¬ (sB x).toList = [35, 35, 111, 116, 104, 101, 114] := fun q e => by
    rw [sB_list] at e
    have : l = [] := by simpa using q
    exact h2 (by rw [this, e]; rfl)
  have ev : parS (x :: l) t = (if (x :: l).all (okB t) = true then (⟨3, [], rs ((x :: l).map (spV1 t)), 0⟩, true) else (Wd.zero, false)) := by
    unfold parS
    rw [if_neg (by rintro (q | q); exact hn0 q; exact h1 q), if_neg h2]
  clear h1 h2 hn0 hat h'
  generalize x :: l = ws at hat' hl hp k1 k2 ev ⊢
  obtain ⟨R, hR⟩ : ∃ R, parS ws t = R := ⟨_, rfl⟩
  rw [hR]
  have HR : Hid _ := hR.symm.trans ev
  clear hR ev
  have HX : Hid _ := hat'
  clear hat'
  generalize sB x = N at e0 k1 k2
  generalize hnn : ws.length = n at hl hp k1 k2 ⊢
  have Hn : Hid (ws.length = n) := hnn
  clear hnn
  have hp0 : ((n : Int) == 0) = false := by simp; omega
  by_cases hn1 : n = 1
  · have k1' : (N.toList == [35, 35, 97, 110, 121]) = false := by simpa using k1 hn1
    have k2' : (N.toList == [35, 35, 111, 116, 104, 101, 114]) = false := by simpa using k2 hn1
    have d1 : ((n : Int) == 1) = true := by rw [hn1]; rfl
    clear k1 k2 hn1
    go_enter Tryd.func25, Tryd.ntmps25
    go_wp2_with (first | (at_make; refine wpList_make_own (w.alloc (.cells #[.int .i64 0, .string ⟨#[]⟩, .slice none 0 0, .int .i64 0] 25)) rfl _ _ 23 rfl (w.alloc (.cells #[.int .i64 0, .string ⟨#[]⟩, .slice none 0 0, .int .i64 0] 25)).heap.size 9 i0 (.string ⟨#[]⟩) 1 Tryd.underlying23 hi0 hz0 hz1 _ _ _ n rfl rfl rfl (by rw [hz2]; omega) (by unfold maxLen; omega) (Nat.le_refl _) ?_; intro w5 hown5 hg5; have H5 : Hid _ := And.intro hown5 hg5; clear hown5 hg5))
    have hU : Below w.heap.size w (w.alloc (.cells #[.int .i64 0, .string ⟨#[]⟩, .slice none 0 0, .int .i64 0] 25)) := bel1 _ _
    have hxr := nw_heap w (.cells #[.int .i64 0, .string ⟨#[]⟩, .slice none 0 0, .int .i64 0] 25)
    have hsz := sza w (.cells #[.int .i64 0, .string ⟨#[]⟩, .slice none 0 0, .int .i64 0] 25)
    clear e0
    generalize (w.alloc (.cells #[.int .i64 0, .string ⟨#[]⟩, .slice none 0 0, .int .i64 0] 25)) = U at H5 hU hxr hsz ⊢
    have HU : Hid _ := And.intro hU hxr
    clear hU hxr
    have hb5 : Below U.heap.size U w5 := (Below.refl _ _).grown H5.out.2 (Nat.le_refl _) (fun k q => by cases q)
    have HI0 : Hid (OwS w5 U.heap.size (.slice (some ⟨w.heap.size + 1, 0, none⟩) 0 n) [] ∧ Below U.heap.size U w5) := ⟨by rw [← hsz]; exact H5.out.1, hb5⟩
    clear hb5 H5 hsz
    go_loopg [6, 44] n (fun gg v6 v44 wr => ∃ k : Nat, k + gg = n ∧ v44 = .int .i64 (k : Int) ∧ OwS wr U.heap.size v6 ((ws.take k).map (spV1 t)) ∧ (ws.take k).all (okB t) = true ∧ Below U.heap.size U wr)
    case atStart => exact ⟨0, by omega, rfl, HI0.out.1, rfl, HI0.out.2⟩
    case round =>
      obtain ⟨k, hk, rfl, hown, hall, hb⟩ := hrel
      have hxr := (hb.block _ (lt_of HU.out.2)).trans HU.out.2
      obtain ⟨⟨c0, c1, c2, c3⟩, f0, f1, f2, f3⟩ := blk4 hxr
      have HB : Hid _ := And.intro hown (And.intro hall (And.intro hb hxr))
      obtain ⟨ya, yc, rfl⟩ := row_form hown
      clear hown hall hb hxr
      by_cases hlt : k < n
      · obtain ⟨gg, rfl⟩ : ∃ gg, gk = gg + 1 := ⟨gk - 1, by omega⟩
        have hkl : k < ws.length := by rw [Hn.out]; exact hlt
        have e0 : wr.cell? ⟨g, off + k, none⟩ = some (.string (sB ws[k])) := ((HU.out.1.trans (HB.out.2.2.1.mono HU.out.1.size)).cell (p := ⟨g, off + k, none⟩) hg).trans (HX.out k ws[k] (by simp [hkl]))
        have hts := take_snoc hkl
        have hal := all_snoc hkl (okB t)
        rw [HB.out.2.1] at hal
        have hmem := List.getElem_mem hkl
        obtain ⟨y, hy⟩ : ∃ y, ws[k] = y := ⟨_, rfl⟩
        rw [hy] at e0 hts hal hmem
        have hq := space_p y t wr
        have hml : ((ws.take k).map (spV1 t)).length = k := by rw [List.length_map, List.length_take, Hn.out]; omega
        have HS : Hid _ := And.intro hts (And.intro hal (And.intro hmem (And.intro hq hml)))
        clear hts hal hmem hq hy
        rw [hml] at HB ⊢
        clear hml
        by_cases hok : okB t y = true
        · go_wp2_with (first | (go_at_call 40; refine Calls.mono HS.out.2.2.2.1 ?_; rintro e w1 ⟨rfl, rfl⟩; rw [hok]) | (at_builtin; refine wpList_append_own _ rfl (.tmp 57) (.tmp 59) 23 rfl U.heap.size 9 i0 (.string ⟨#[]⟩) 1 16 Tryd.underlying23 hi0 hz0 hz1 hz2 rfl (by decide) (.slice ya k yc) k (tc ((ws.take k).map (spV1 t))) rfl (by have := HB.out.1.alloc (.cells #[.string (sB (spV1 t y))] 9); rw [HS.out.2.2.2.2] at this; exact this) ⟨w1.heap.size, 0, none⟩ 1 1 [.string (sB (spV1 t y))] rfl rfl (cell_one_new _ _ _) (by intro u hu; simp at hu; subst hu; rfl) (by unfold maxLen; omega) (by omega) (by have := HB.out.2.2.1.size; simp; omega) ?_; intro v3n w3 hown3 hgr3 _; have H3 : Hid _ := And.intro hown3 ((HB.out.2.2.1.alloc HB.out.2.2.1.size _).grown hgr3 (by have := HB.out.2.2.1.size; simp; omega) (fun j hj => (HB.out.1.lt j hj).1)); clear hown3 hgr3))
          go_roundg gg
          case measure => omega
          case rel =>
            refine ⟨k + 1, by omega, by simp, ?_, by rw [HS.out.2.1, hok]; rfl, H3.out.2⟩
            rw [HS.out.1, List.map_append]
            unfold OwS
            rw [tc_app, List.length_append, HS.out.2.2.2.2]
            exact H3.out.1
        · have hok' : okB t y = false := by simpa using hok
          have hr : R = (Wd.zero, false) := by
            rw [HR.out, if_neg]
            intro q
            exact hok (List.all_eq_true.1 q y HS.out.2.2.1)
          subst hr
          go_wp2_with (first | (go_at_call 40; refine Calls.mono HS.out.2.2.2.1 ?_; rintro e w1 ⟨rfl, rfl⟩; rw [hok']))
          refine ret_w2 (X := w.heap.size) Tryd.results25 rfl rfl ⟨_, set4_heap _ _ _ _ HB.out.2.2.2, rfl, ?_⟩
          exact ⟨_, rfl, ⟨_, rfl, TxR.nil _ _ _⟩, set4_bel _ _ _ _ (HU.out.1.trans (HB.out.2.2.1.mono HU.out.1.size)) (Nat.le_refl _)⟩
      · have htk : ws.take k = ws := List.take_of_length_le (by rw [Hn.out]; omega)
        have hall := HB.out.2.1
        have hown := HB.out.1
        have hml : ((ws.take k).map (spV1 t)).length = k := by rw [List.length_map, List.length_take, Hn.out]; omega
        rw [hml] at hown
        rw [htk] at hall hown
        have hr : R = (⟨3, [], rs (ws.map (spV1 t)), 0⟩, true) := by rw [HR.out, if_pos hall]
        have hkn : k ≤ n := by omega
        have hq := rising_p U.heap.size (ws.map (spV1 t)) (.slice ya k yc) wr hown HB.out.2.2.1.size (by rw [List.length_map, Hn.out]; omega)
        have HQ : Hid _ := hq
        have HML : Hid _ := hml
        clear hq hown hall htk
        rw [hml]
        clear hml
        go_wp2_with fail
        refine Calls.mono HQ.out ?_
        rintro e w2 ⟨v2, rfl, ht2, hb2⟩
        have hxr := (hb2.block _ (lt_of HU.out.2)).trans HB.out.2.2.2
        clear c0 c1 c2 c3 f0 f1 f2 f3
        obtain ⟨⟨c0, c1, c2, c3⟩, f0, f1, f2, f3⟩ := blk4 hxr
        have HE : Hid _ := And.intro hxr (And.intro (HU.out.1.trans ((HB.out.2.2.1.trans hb2).mono HU.out.1.size)) ht2)
        obtain ⟨x2, y2, rfl, _⟩ := ht2.len
        clear hxr hb2 ht2
        subst hr
        go_wp2_with fail
        refine ret_w2 (X := w.heap.size) Tryd.results25 rfl rfl ⟨_, set4_heap _ _ _ _ HE.out.1, rfl, ?_⟩
        exact ⟨_, rfl, ⟨_, rfl, set4_res _ _ _ _ HE.out.2.2 HE.out.1 (.inr rfl)⟩, set4_bel _ _ _ _ HE.out.2.1 (Nat.le_refl _)⟩
  · have d1 : ((n : Int) == 1) = false := by simp; omega
    clear k1 k2 hn1
    go_enter Tryd.func25, Tryd.ntmps25
    go_wp2_with (first | (at_make; refine wpList_make_own (w.alloc (.cells #[.int .i64 0, .string ⟨#[]⟩, .slice none 0 0, .int .i64 0] 25)) rfl _ _ 23 rfl (w.alloc (.cells #[.int .i64 0, .string ⟨#[]⟩, .slice none 0 0, .int .i64 0] 25)).heap.size 9 i0 (.string ⟨#[]⟩) 1 Tryd.underlying23 hi0 hz0 hz1 _ _ _ n rfl rfl rfl (by rw [hz2]; omega) (by unfold maxLen; omega) (Nat.le_refl _) ?_; intro w5 hown5 hg5; have H5 : Hid _ := And.intro hown5 hg5; clear hown5 hg5))
    have hU : Below w.heap.size w (w.alloc (.cells #[.int .i64 0, .string ⟨#[]⟩, .slice none 0 0, .int .i64 0] 25)) := bel1 _ _
    have hxr := nw_heap w (.cells #[.int .i64 0, .string ⟨#[]⟩, .slice none 0 0, .int .i64 0] 25)
    have hsz := sza w (.cells #[.int .i64 0, .string ⟨#[]⟩, .slice none 0 0, .int .i64 0] 25)
    clear e0
    generalize (w.alloc (.cells #[.int .i64 0, .string ⟨#[]⟩, .slice none 0 0, .int .i64 0] 25)) = U at H5 hU hxr hsz ⊢
    have HU : Hid _ := And.intro hU hxr
    clear hU hxr
    have hb5 : Below U.heap.size U w5 := (Below.refl _ _).grown H5.out.2 (Nat.le_refl _) (fun k q => by cases q)
    have HI0 : Hid (OwS w5 U.heap.size (.slice (some ⟨w.heap.size + 1, 0, none⟩) 0 n) [] ∧ Below U.heap.size U w5) := ⟨by rw [← hsz]; exact H5.out.1, hb5⟩
    clear hb5 H5 hsz
    go_loopg [6, 44] n (fun gg v6 v44 wr => ∃ k : Nat, k + gg = n ∧ v44 = .int .i64 (k : Int) ∧ OwS wr U.heap.size v6 ((ws.take k).map (spV1 t)) ∧ (ws.take k).all (okB t) = true ∧ Below U.heap.size U wr)
    case atStart => exact ⟨0, by omega, rfl, HI0.out.1, rfl, HI0.out.2⟩
    case round =>
      obtain ⟨k, hk, rfl, hown, hall, hb⟩ := hrel
      have hxr := (hb.block _ (lt_of HU.out.2)).trans HU.out.2
      obtain ⟨⟨c0, c1, c2, c3⟩, f0, f1, f2, f3⟩ := blk4 hxr
      have HB : Hid _ := And.intro hown (And.intro hall (And.intro hb hxr))
      obtain ⟨ya, yc, rfl⟩ := row_form hown
      clear hown hall hb hxr
      by_cases hlt : k < n
      · obtain ⟨gg, rfl⟩ : ∃ gg, gk = gg + 1 := ⟨gk - 1, by omega⟩
        have hkl : k < ws.length := by rw [Hn.out]; exact hlt
        have e0 : wr.cell? ⟨g, off + k, none⟩ = some (.string (sB ws[k])) := ((HU.out.1.trans (HB.out.2.2.1.mono HU.out.1.size)).cell (p := ⟨g, off + k, none⟩) hg).trans (HX.out k ws[k] (by simp [hkl]))
        have hts := take_snoc hkl
        have hal := all_snoc hkl (okB t)
        rw [HB.out.2.1] at hal
        have hmem := List.getElem_mem hkl
        obtain ⟨y, hy⟩ : ∃ y, ws[k] = y := ⟨_, rfl⟩
        rw [hy] at e0 hts hal hmem
        have hq := space_p y t wr
        have hml : ((ws.take k).map (spV1 t)).length = k := by rw [List.length_map, List.length_take, Hn.out]; omega
        have HS : Hid _ := And.intro hts (And.intro hal (And.intro hmem (And.intro hq hml)))
        clear hts hal hmem hq hy
        rw [hml] at HB ⊢
        clear hml
        by_cases hok : okB t y = true
        · go_wp2_with (first | (go_at_call 40; refine Calls.mono HS.out.2.2.2.1 ?_; rintro e w1 ⟨rfl, rfl⟩; rw [hok]) | (at_builtin; refine wpList_append_own _ rfl (.tmp 57) (.tmp 59) 23 rfl U.heap.size 9 i0 (.string ⟨#[]⟩) 1 16 Tryd.underlying23 hi0 hz0 hz1 hz2 rfl (by decide) (.slice ya k yc) k (tc ((ws.take k).map (spV1 t))) rfl (by have := HB.out.1.alloc (.cells #[.string (sB (spV1 t y))] 9); rw [HS.out.2.2.2.2] at this; exact this) ⟨w1.heap.size, 0, none⟩ 1 1 [.string (sB (spV1 t y))] rfl rfl (cell_one_new _ _ _) (by intro u hu; simp at hu; subst hu; rfl) (by unfold maxLen; omega) (by omega) (by have := HB.out.2.2.1.size; simp; omega) ?_; intro v3n w3 hown3 hgr3 _; have H3 : Hid _ := And.intro hown3 ((HB.out.2.2.1.alloc HB.out.2.2.1.size _).grown hgr3 (by have := HB.out.2.2.1.size; simp; omega) (fun j hj => (HB.out.1.lt j hj).1)); clear hown3 hgr3))
          go_roundg gg
          case measure => omega
          case rel =>
            refine ⟨k + 1, by omega, by simp, ?_, by rw [HS.out.2.1, hok]; rfl, H3.out.2⟩
            rw [HS.out.1, List.map_append]
            unfold OwS
            rw [tc_app, List.length_append, HS.out.2.2.2.2]
            exact H3.out.1
        · have hok' : okB t y = false := by simpa using hok
          have hr : R = (Wd.zero, false) := by
            rw [HR.out, if_neg]
            intro q
            exact hok (List.all_eq_true.1 q y HS.out.2.2.1)
          subst hr
          go_wp2_with (first | (go_at_call 40; refine Calls.mono HS.out.2.2.2.1 ?_; rintro e w1 ⟨rfl, rfl⟩; rw [hok']))
          refine ret_w2 (X := w.heap.size) Tryd.results25 rfl rfl ⟨_, set4_heap _ _ _ _ HB.out.2.2.2, rfl, ?_⟩
          exact ⟨_, rfl, ⟨_, rfl, TxR.nil _ _ _⟩, set4_bel _ _ _ _ (HU.out.1.trans (HB.out.2.2.1.mono HU.out.1.size)) (Nat.le_refl _)⟩
      · have htk : ws.take k = ws := List.take_of_length_le (by rw [Hn.out]; omega)
        have hall := HB.out.2.1
        have hown := HB.out.1
        have hml : ((ws.take k).map (spV1 t)).length = k := by rw [List.length_map, List.length_take, Hn.out]; omega
        rw [hml] at hown
        rw [htk] at hall hown
        have hr : R = (⟨3, [], rs (ws.map (spV1 t)), 0⟩, true) := by rw [HR.out, if_pos hall]
        have hkn : k ≤ n := by omega
        have hq := rising_p U.heap.size (ws.map (spV1 t)) (.slice ya k yc) wr hown HB.out.2.2.1.size (by rw [List.length_map, Hn.out]; omega)
        have HQ : Hid _ := hq
        have HML : Hid _ := hml
        clear hq hown hall htk
        rw [hml]
        clear hml
        go_wp2_with fail
        refine Calls.mono HQ.out ?_
        rintro e w2 ⟨v2, rfl, ht2, hb2⟩
        have hxr := (hb2.block _ (lt_of HU.out.2)).trans HB.out.2.2.2
        clear c0 c1 c2 c3 f0 f1 f2 f3
        obtain ⟨⟨c0, c1, c2, c3⟩, f0, f1, f2, f3⟩ := blk4 hxr
        have HE : Hid _ := And.intro hxr (And.intro (HU.out.1.trans ((HB.out.2.2.1.trans hb2).mono HU.out.1.size)) ht2)
        obtain ⟨x2, y2, rfl, _⟩ := ht2.len
        clear hxr hb2 ht2
        subst hr
        go_wp2_with fail
        refine ret_w2 (X := w.heap.size) Tryd.results25 rfl rfl ⟨_, set4_heap _ _ _ _ HE.out.1, rfl, ?_⟩
        exact ⟨_, rfl, ⟨_, rfl, set4_res _ _ _ _ HE.out.2.2 HE.out.1 (.inr rfl)⟩, set4_bel _ _ _ _ HE.out.2.1 (Nat.le_refl _)⟩
theorem spaces_p (ws : List Tx) (t : Tx) (v : Value) (w : World) (h : TxL w v ws) (hl : ws.length ≤ 5000) : Calls Tryd.prog 25 #[v, eS t] w fun e w' => PsQ (parS ws t) w e w' := by
  by_cases h0 : ws = []
  · subst h0
    obtain ⟨a, c, rfl, _⟩ := h
    exact spaces_nil t a c w
  · by_cases h1 : ws = [tAny]
    · subst h1; exact spaces_any t v w h
    · by_cases h2 : ws = [tOther]
      · subst h2; exact spaces_other t v w h
      · exact spaces_gen ws t v w h h0 hl h1 h2
end Go.Proofs.YtknfipcegmajaaaDoor
namespace Go.Proofs.YtknfipcegmajaaaDoor
open Go.RowKit
set_option linter.unusedVariables false
set_option linter.unusedSimpArgs false

/-- A text's words. -/
def wds (x : Tx) : List Tx := (Ch.wordsOf (Ch.bl (sB x))).map tx
theorem bl_len (x : Tx) : (Ch.bl (sB x)).length = x.length := by simp [Ch.bl, sB]
theorem wds_len (x : Tx) : (wds x).length ≤ x.length + 1 := by
  have := Ch.words_le (Ch.bl (sB x))
  rw [bl_len] at this
  unfold wds
  rwa [List.length_map]
theorem words_p (x : Tx) (w : World) (hs : x.length ≤ 4000) : Calls Tryd.prog 26 #[eS x] w fun e w' => ∃ v, e = .returned v ∧ TxL w' v (wds x) ∧ Below w.heap.size w w' := by
  have hz : (sB x).size ≤ 50000 := by rw [sB_size]; omega
  refine (Ch.words_any (sB x) w hz).mono ?_
  rintro e w' ⟨a, cap, rfl, h1, h2⟩
  exact ⟨_, rfl, sts_txl h1, h2⟩
def PrQ (r : Wd × Int) (w : World) (e : Ending) (w' : World) : Prop := ∃ v', e = .returned (.tuple #[v', .int .i64 r.2]) ∧ WdV w' v' r.1 ∧ Below w.heap.size w w'
theorem TxL.len {w : World} {v : Value} {l : List Tx} (h : TxL w v l) : ∃ a cap, v = .slice a l.length cap := by
  obtain ⟨a, cap, rfl, _⟩ := h
  exact ⟨a, cap, rfl⟩
set_option maxRecDepth 8000 in
set_option maxHeartbeats 4000000 in
theorem parse_p (x t p : Tx) (w : World) (hs : x.length ≤ 4000) : Calls Tryd.prog 8 #[eS x, eS t, eS p] w fun e w' => PrQ (parseS (wds x) t p) w e w' := by
  have hxr := nw_heap w (.cells #[.int .i64 0, .string ⟨#[]⟩, .slice none 0 0, .int .i64 0] 25)
  have hb0 := bel1 w (.cells #[.int .i64 0, .string ⟨#[]⟩, .slice none 0 0, .int .i64 0] 25)
  obtain ⟨R, hR⟩ : ∃ R, parseS (wds x) t p = R := ⟨_, rfl⟩
  rw [hR]
  have HR : Hid _ := hR
  clear hR
  have HX : Hid _ := And.intro hxr hb0
  clear hxr hb0
  go_enter Tryd.func8, Tryd.ntmps8
  go_wp2_with fail
  generalize (w.alloc (.cells #[.int .i64 0, .string ⟨#[]⟩, .slice none 0 0, .int .i64 0] 25)) = U at HX ⊢
  refine Calls.mono (words_p x U hs) ?_
  rintro e w1 ⟨v1, rfl, ht1, hb1⟩
  have H1 : Hid _ := And.intro ht1 hb1
  clear ht1 hb1
  go_wp2_with fail
  have hle := wds_len x
  refine Calls.mono (spaces_p (wds x) t v1 w1 H1.out.1 (by omega)) ?_
  rintro e w2 ⟨v2, rfl, hw2, hb2⟩
  obtain ⟨x2, c2', rfl⟩ := hw2.form
  have hbU := H1.out.2.trans (hb2.mono H1.out.2.size)
  have hx2 := (hbU.block _ (lt_of HX.out.1)).trans HX.out.1
  have hal : ∀ o, (w2.alloc o).heap[w.heap.size]? = some (.cells #[.int .i64 0, .string ⟨#[]⟩, .slice none 0 0, .int .i64 0] 25 (0, 0)) := fun o => nw_below hx2
  have c0 := fun o => (blk4 (hal o)).1.1
  have c1 := fun o => (blk4 (hal o)).1.2.1
  have c2 := fun o => (blk4 (hal o)).1.2.2.1
  have c3 := fun o => (blk4 (hal o)).1.2.2.2
  have f0 := fun o => (blk4 (hal o)).2.1
  have f1 := fun o => (blk4 (hal o)).2.2.1
  have f2 := fun o => (blk4 (hal o)).2.2.2.1
  have f3 := fun o => (blk4 (hal o)).2.2.2.2
  have hne : ¬ w2.heap.size = w.heap.size := fun q => by have := lt_of hx2; omega
  have HW : Hid _ := And.intro hw2 (And.intro (HX.out.2.trans (hbU.mono HX.out.2.size)) hal)
  have hpr := process_p p
  have HP : Hid _ := hpr
  clear hw2 hb2 hbU hx2 hal hle hpr
  obtain ⟨pr, hq⟩ : ∃ q, prS p = q := ⟨_, rfl⟩
  obtain ⟨ok, hok⟩ : ∃ k, (parS (wds x) t).2 = k := ⟨_, rfl⟩
  rw [hok]
  have HQ : Hid _ := And.intro hq hok
  rw [hq] at HP
  clear hq hok
  cases ok
  · have hr : R = (Wd.zero, 2) := by rw [← HR.out]; unfold parseS; rw [if_pos (.inl HQ.out.2)]
    subst hr
    go_wp2_with (go_at_call 27; refine Calls.mono (HP.out _) ?_; rintro e w3 ⟨rfl, rfl⟩)
    refine ret_w2 (X := w.heap.size) Tryd.results8 rfl rfl ⟨_, set4_heap _ _ _ _ (HW.out.2.2 _), rfl, ?_⟩
    exact ⟨_, rfl, ⟨_, rfl, TxR.nil _ _ _⟩, set4_bel _ _ _ _ (HW.out.2.1.alloc HW.out.2.1.size _) (Nat.le_refl _)⟩
  · by_cases h0 : pr = 0
    · subst h0
      have hr : R = (Wd.zero, 2) := by rw [← HR.out]; unfold parseS; rw [if_pos (.inr HQ.out.1)]
      subst hr
      go_wp2_with (go_at_call 27; refine Calls.mono (HP.out _) ?_; rintro e w3 ⟨rfl, rfl⟩)
      refine ret_w2 (X := w.heap.size) Tryd.results8 rfl rfl ⟨_, set4_heap _ _ _ _ (HW.out.2.2 _), rfl, ?_⟩
      exact ⟨_, rfl, ⟨_, rfl, TxR.nil _ _ _⟩, set4_bel _ _ _ _ (HW.out.2.1.alloc HW.out.2.1.size _) (Nat.le_refl _)⟩
    · have d0 : (pr == 0) = false := by simpa using h0
      have hr : R = ({ (parS (wds x) t).1 with pr := pr }, 0) := by
        rw [← HR.out]
        unfold parseS
        rw [if_neg (by rintro (q | q); rw [HQ.out.2] at q; cases q; exact h0 (HQ.out.1.symm.trans q)), HQ.out.1]
      have hsh := parS_shape _ _ HQ.out.2
      have hor : (parS (wds x) t).1.sp = [] ∨ Value.string (sB (parS (wds x) t).1.nt) = .string ⟨#[]⟩ := by
        by_cases h2 : (parS (wds x) t).1.how = 2
        · exact .inl (hsh.sp (by dsimp only; omega))
        · right; rw [hsh.nt h2, sB_nil]
      have HO : Hid _ := hor
      have hrow := WdV.row HW.out.1
      have HRW : Hid _ := hrow
      subst hr
      clear hor hsh h0 hrow
      go_wp2_with (go_at_call 27; refine Calls.mono (HP.out _) ?_; rintro e w3 ⟨rfl, rfl⟩)
      refine ret_w2 (X := w.heap.size) Tryd.results8 rfl rfl ⟨_, set4_heap _ _ _ _ (HW.out.2.2 _), rfl, ?_⟩
      exact ⟨_, rfl, ⟨_, rfl, set4_res _ _ _ _ (TxR.below HRW.out (bel1 _ _)) (HW.out.2.2 _) HO.out⟩, set4_bel _ _ _ _ (HW.out.2.1.alloc HW.out.2.1.size _) (Nat.le_refl _)⟩
end Go.Proofs.YtknfipcegmajaaaDoor
namespace Go.Proofs.YtknfipcegmajaaaDoor
set_option linter.unusedVariables false

def kX : Tx := [116]
def kU : Tx := [117]
def kN : Tx := [116, 32, 117, 32, 35, 35, 108, 111, 99, 97, 108]
theorem k_a : parseS (wds tOther) kX tLax = (⟨2, kX, [], 2⟩, 0) := by decide +kernel
theorem k_b : parseS (wds kN) kX [] = (⟨3, [], [[], kX, kU], 1⟩, 0) := by decide +kernel
theorem k_c : bothP ⟨2, kX, [], 2⟩ ⟨3, [], [[], kX, kU], 1⟩ = (⟨3, [], [kU], 2⟩, true) := by decide +kernel
theorem k_1 : (alw ⟨2, kX, [], 2⟩).has kX = false := by decide +kernel
theorem k_2 : (alw ⟨2, kX, [], 2⟩).has [] = false := by decide +kernel
theorem k_3 : (alw ⟨2, kX, [], 2⟩).has kU = true := by decide +kernel
theorem k_4 : subP ⟨3, [], [kU], 2⟩ ⟨2, kX, [], 2⟩ = true := by decide +kernel
theorem k_wa : Wr ⟨2, kX, [], 2⟩ := (rgt_iff _).1 (by decide +kernel)
theorem k_wb : Wr ⟨3, [], [[], kX, kU], 1⟩ := (rgt_iff _).1 (by decide +kernel)
theorem k_wc : Wr ⟨3, [], [kU], 2⟩ := (rgt_iff _).1 (by decide +kernel)
end Go.Proofs.YtknfipcegmajaaaDoor
namespace Go.Proofs.YtknfipcegmajaaaDoor
open Go.RowKit
set_option linter.unusedVariables false
set_option linter.unusedSimpArgs false

abbrev cA (sl : Value) : Obj := .cells #[.int .i64 2, .string (sB kX), sl, .int .i64 2] 25
abbrev cC (sl : Value) : Obj := .cells #[.int .i64 3, .string (sB []), sl, .int .i64 2] 25
theorem ka1 (x : Option Addr) (c : Nat) (W : World) : Calls Tryd.prog 19 #[.agg #[.int .i64 2, .string (sB kX), .slice x 0 c, .int .i64 2], .string ⟨#[116]⟩] W fun e w' => e = .returned (.bool false) ∧ Below W.heap.size W w' := by
  have hq := allows_p ⟨2, kX, [], 2⟩ kX (wdV ⟨2, kX, [], 2⟩ (.slice x 0 c)) W ⟨_, rfl, TxR.nil _ _ _⟩ (inc_alw k_wa) (by decide)
  rw [k_1] at hq
  exact hq
theorem ka2 (x : Option Addr) (c : Nat) (W : World) : Calls Tryd.prog 19 #[.agg #[.int .i64 2, .string (sB kX), .slice x 0 c, .int .i64 2], .string ⟨#[]⟩] W fun e w' => e = .returned (.bool false) ∧ Below W.heap.size W w' := by
  have hq := allows_p ⟨2, kX, [], 2⟩ [] (wdV ⟨2, kX, [], 2⟩ (.slice x 0 c)) W ⟨_, rfl, TxR.nil _ _ _⟩ (inc_alw k_wa) (by decide)
  rw [k_2] at hq
  exact hq
theorem ka3 (x : Option Addr) (c : Nat) (W : World) : Calls Tryd.prog 19 #[.agg #[.int .i64 2, .string (sB kX), .slice x 0 c, .int .i64 2], .string ⟨#[117]⟩] W fun e w' => e = .returned (.bool true) ∧ Below W.heap.size W w' := by
  have hq := allows_p ⟨2, kX, [], 2⟩ kU (wdV ⟨2, kX, [], 2⟩ (.slice x 0 c)) W ⟨_, rfl, TxR.nil _ _ _⟩ (inc_alw k_wa) (by decide)
  rw [k_3] at hq
  exact hq
theorem ka4 (x y : Option Addr) (c d : Nat) (W : World) (h : TxR W (.slice y 1 d) [kU]) : Calls Tryd.prog 21 #[.agg #[.int .i64 3, .string (sB []), .slice y 1 d, .int .i64 2], .agg #[.int .i64 2, .string (sB kX), .slice x 0 c, .int .i64 2]] W fun e w' => e = .returned (.bool true) ∧ Below W.heap.size W w' := by
  have hq := sub_p ⟨3, [], [kU], 2⟩ ⟨2, kX, [], 2⟩ (wdV ⟨3, [], [kU], 2⟩ (.slice y 1 d)) (wdV ⟨2, kX, [], 2⟩ (.slice x 0 c)) W ⟨_, rfl, h⟩ ⟨_, rfl, TxR.nil _ _ _⟩ (inc_alw k_wc) (inc_alw k_wa) (by decide) (by decide)
  rw [k_4] at hq
  exact hq
set_option maxRecDepth 8000 in
set_option maxHeartbeats 4000000 in
theorem known_p (w : World) : Calls Tryd.prog 7 #[] w fun e w' => e = .returned (.bool true) ∧ Below w.heap.size w w' := by
  have q1 : ∀ W : World, Calls Tryd.prog 8 #[.string ⟨#[35, 35, 111, 116, 104, 101, 114]⟩, .string ⟨#[116]⟩, .string ⟨#[108, 97, 120]⟩] W fun e w' => PrQ (⟨2, kX, [], 2⟩, 0) W e w' := fun W => by
    have := parse_p tOther kX tLax W (by decide)
    rw [k_a] at this
    exact this
  have q2 : ∀ W : World, Calls Tryd.prog 8 #[.string ⟨#[116, 32, 117, 32, 35, 35, 108, 111, 99, 97, 108]⟩, .string ⟨#[116]⟩, .string ⟨#[]⟩] W fun e w' => PrQ (⟨3, [], [[], kX, kU], 1⟩, 0) W e w' := fun W => by
    have := parse_p kN kX [] W (by decide)
    rw [k_b] at this
    exact this
  have HQ : Hid _ := And.intro q1 q2
  clear q1 q2
  go_enter Tryd.func7, Tryd.ntmps7
  go_wp2_with fail
  refine Calls.mono (HQ.out.1 w) ?_
  rintro e w1 ⟨v1, rfl, hw1, hb1⟩
  obtain ⟨x1, c1', rfl⟩ := hw1.form
  have H1 : Hid _ := And.intro hw1 hb1
  clear hw1 hb1
  go_wp2_with fail
  have hA1 := nw_heap w1 (cA (.slice x1 0 c1'))
  have hbA := bel1 w1 (cA (.slice x1 0 c1'))
  have hrA : TxR (w1.alloc (cA (.slice x1 0 c1'))) (.slice x1 0 c1') [] := TxR.nil _ _ _
  have HA : Hid _ := And.intro hA1 (And.intro (H1.out.2.trans (hbA.mono H1.out.2.size)) hrA)
  clear hA1 hbA hrA
  refine Calls.mono (HQ.out.2 (w1.alloc (cA (.slice x1 0 c1')))) ?_
  generalize w1.alloc (cA (.slice x1 0 c1')) = W1 at HA
  rintro e w2 ⟨v2, rfl, hw2, hb2⟩
  obtain ⟨x2, c2', rfl⟩ := hw2.form
  have hA2 := (hb2.block _ (lt_of HA.out.1)).trans HA.out.1
  have H2 : Hid _ := And.intro hw2 (And.intro (HA.out.2.1.trans (hb2.mono HA.out.2.1.size)) hA2)
  clear hw2 hb2 hA2
  have hB2 := nw_heap w2 (.cells #[.int .i64 3, .string (sB []), .slice x2 3 c2', .int .i64 1] 25)
  have hA3 : (w2.alloc (.cells #[.int .i64 3, .string (sB []), .slice x2 3 c2', .int .i64 1] 25)).heap[w1.heap.size]? = some (.cells #[.int .i64 2, .string (sB kX), .slice x1 0 c1', .int .i64 2] 25 (0, 0)) := nw_below H2.out.2.2
  obtain ⟨⟨a0, a1, a2, a3⟩, _⟩ := blk4 hA3
  have hbB := bel1 w2 (.cells #[.int .i64 3, .string (sB []), .slice x2 3 c2', .int .i64 1] 25)
  have HB : Hid _ := And.intro hA3 (And.intro (H2.out.2.1.trans (hbB.mono H2.out.2.1.size)) (TxR.below (WdV.row H2.out.1) hbB))
  clear hA3 hB2 hbB
  go_wp2_with fail
  have hbo := bothW_p ⟨2, kX, [], 2⟩ ⟨3, [], [[], kX, kU], 1⟩ (wdV ⟨2, kX, [], 2⟩ (.slice x1 0 c1')) (wdV ⟨3, [], [[], kX, kU], 1⟩ (.slice x2 3 c2')) (w2.alloc (.cells #[.int .i64 3, .string (sB []), .slice x2 3 c2', .int .i64 1] 25)) ⟨_, rfl, TxR.nil _ _ _⟩ ⟨_, rfl, HB.out.2.2⟩ (inc_alw k_wa) (inc_alw k_wb) (by decide) (by decide)
  rw [k_c] at hbo
  refine Calls.mono hbo ?_
  clear hbo a0 a1 a2 a3
  generalize (w2.alloc (.cells #[.int .i64 3, .string (sB []), .slice x2 3 c2', .int .i64 1] 25)) = W2 at HB
  rintro e w3 ⟨v3, rfl, hw3, hb3⟩
  obtain ⟨x3, c3', rfl⟩ := hw3.form
  have hA4 := (hb3.block _ (lt_of HB.out.1)).trans HB.out.1
  have hC4 := nw_heap w3 (cC (.slice x3 1 c3'))
  have hbC := bel1 w3 (cC (.slice x3 1 c3'))
  have HC : Hid _ := And.intro (nw_below (o' := cC (.slice x3 1 c3')) hA4) (And.intro hC4 (And.intro ((HB.out.2.1.trans (hb3.mono HB.out.2.1.size)).trans (hbC.mono (HB.out.2.1.trans (hb3.mono HB.out.2.1.size)).size)) (TxR.below (WdV.row hw3) hbC)))
  clear hA4 hC4 hbC hw3 hb3
  go_upto_region 4 with fail
  generalize (w3.alloc (cC (.slice x3 1 c3'))) = W3 at HC ⊢
  have HK : Hid (∀ W, Below W3.heap.size W3 W → (W.cell? ⟨w1.heap.size, 0, none⟩ = some (.int .i64 2) ∧ W.cell? ⟨w1.heap.size, 1, none⟩ = some (.string (sB kX)) ∧ W.cell? ⟨w1.heap.size, 2, none⟩ = some (.slice x1 0 c1') ∧ W.cell? ⟨w1.heap.size, 3, none⟩ = some (.int .i64 2) ∧ W.cell? ⟨w3.heap.size, 0, none⟩ = some (.int .i64 3) ∧ W.cell? ⟨w3.heap.size, 1, none⟩ = some (.string (sB [])) ∧ W.cell? ⟨w3.heap.size, 2, none⟩ = some (.slice x3 1 c3') ∧ W.cell? ⟨w3.heap.size, 3, none⟩ = some (.int .i64 2))) := fun W hW => by
    obtain ⟨⟨a0, a1, a2, a3⟩, _⟩ := blk4 ((hW.block _ (lt_of HC.out.1)).trans HC.out.1)
    obtain ⟨⟨c0, c1, c2, c3⟩, _⟩ := blk4 ((hW.block _ (lt_of HC.out.2.1)).trans HC.out.2.1)
    exact ⟨a0, a1, a2, a3, c0, c1, c2, c3⟩
  have HB0 : Hid (Below W3.heap.size W3 W3) := Below.refl _ _
  obtain ⟨a0, a1, a2, a3, c0, c1, c2, c3⟩ := HK.out _ HB0.out
  go_wp2_with (first
    | (go_at_call 19; (with_reducible refine Calls.mono (ka1 x1 c1' _) ?_); rintro e w9 ⟨rfl, hb9⟩; have hbb := HB0.out.trans (hb9.mono HB0.out.size); clear HB0 a0 a1 a2 a3 c0 c1 c2 c3; obtain ⟨a0, a1, a2, a3, c0, c1, c2, c3⟩ := HK.out _ hbb; have HB0 : Hid _ := hbb; clear hbb; clear hb9)
    | (go_at_call 19; (with_reducible refine Calls.mono (ka2 x1 c1' _) ?_); rintro e w9 ⟨rfl, hb9⟩; have hbb := HB0.out.trans (hb9.mono HB0.out.size); clear HB0 a0 a1 a2 a3 c0 c1 c2 c3; obtain ⟨a0, a1, a2, a3, c0, c1, c2, c3⟩ := HK.out _ hbb; have HB0 : Hid _ := hbb; clear hbb; clear hb9)
    | (go_at_call 19; (with_reducible refine Calls.mono (ka3 x1 c1' _) ?_); rintro e w9 ⟨rfl, hb9⟩; have hbb := HB0.out.trans (hb9.mono HB0.out.size); clear HB0 a0 a1 a2 a3 c0 c1 c2 c3; obtain ⟨a0, a1, a2, a3, c0, c1, c2, c3⟩ := HK.out _ hbb; have HB0 : Hid _ := hbb; clear hbb; clear hb9)
    | (go_at_call 21; have hq := ka4 x1 x3 c1' c3' _ (TxR.below HC.out.2.2.2 HB0.out); (with_reducible refine Calls.mono hq ?_); clear hq; rintro e w9 ⟨rfl, hb9⟩; have hbb := HB0.out.trans (hb9.mono HB0.out.size); clear HB0 a0 a1 a2 a3 c0 c1 c2 c3; obtain ⟨a0, a1, a2, a3, c0, c1, c2, c3⟩ := HK.out _ hbb; have HB0 : Hid _ := hbb; clear hbb; clear hb9))
  all_goals
    go_ret
    exact ⟨rfl, HC.out.2.2.1.trans (HB0.out.mono HC.out.2.2.1.size)⟩
end Go.Proofs.YtknfipcegmajaaaDoor
namespace Go.Proofs.YtknfipcegmajaaaDoor
set_option linter.unusedVariables false
set_option linter.unusedSimpArgs false

theorem said_len (s : Sp) (p : Int) : (saidS s p).1.sp.length ≤ s.l.length := by
  unfold saidS
  split
  · exact Nat.le_refl _
  · split
    · exact Nat.zero_le _
    · split <;> exact Nat.zero_le _
theorem bothS_len (a b : Sp) : (bothS a b).l.length ≤ a.l.length + b.l.length := by
  unfold bothS
  split
  · have := chosen_len a.l b
    show (chosen a.l b).length ≤ _
    omega
  · split
    · have := chosen_len b.l a
      show (chosen b.l a).length ≤ _
      omega
    · have := rs_len (a.l ++ b.l)
      rw [List.length_append] at this
      exact this
theorem bothP_len {A B : Wd} (la : A.sp.length ≤ 30) (lb : B.sp.length ≤ 30) : (bothP A B).1.sp.length ≤ 64 := by
  have h1 := said_len (bothS (alw A) (alw B)) A.pr
  have h2 := bothS_len (alw A) (alw B)
  have h3 := alw_len A
  have h4 := alw_len B
  unfold bothP
  omega
theorem unionP_len {A B : Wd} (la : A.sp.length ≤ 30) (lb : B.sp.length ≤ 30) : (unionP A B).1.sp.length ≤ 64 := by
  have h1 := said_len (bothS (alw A).not (alw B).not).not A.pr
  have h2 := bothS_len (alw A).not (alw B).not
  have h3 := alw_len A
  have h4 := alw_len B
  have h5 : (bothS (alw A).not (alw B).not).not.l = (bothS (alw A).not (alw B).not).l := rfl
  have h6 : (alw A).not.l = (alw A).l := rfl
  have h7 : (alw B).not.l = (alw B).l := rfl
  rw [h5] at h1
  rw [h6, h7] at h2
  unfold unionP
  omega
theorem both_sub {A B : Wd} (wa : Wr A) (wb : Wr B) (h : (bothP A B).2 = true) : subP (bothP A B).1 A = true ∧ subP (bothP A B).1 B = true := by
  obtain ⟨_, hm⟩ := both_wr wa wb h
  constructor <;> rw [sub_iff] <;> intro z hz <;> rw [hm z, Bool.and_eq_true] at hz
  · exact hz.1
  · exact hz.2
theorem union_sub {A B : Wd} (wa : Wr A) (wb : Wr B) (h : (unionP A B).2 = true) : subP A (unionP A B).1 = true ∧ subP B (unionP A B).1 = true := by
  obtain ⟨_, hm⟩ := union_wr wa wb h
  constructor <;> rw [sub_iff] <;> intro z hz <;> rw [hm z, hz]
  · rfl
  · cases (alw A).mem z <;> rfl
theorem few_le {A : Wd} (h : fewB A = true) : A.sp.length ≤ 30 := (of_decide_eq_true h).1
end Go.Proofs.YtknfipcegmajaaaDoor
