/- Joined: HDcG1, HK5. -/
import Derived.Test.YtgaegajcejpmdaaGreatDoorHDcG0
import Derived.Test.YtgaegajcejpmdaaGreatDoorHLay
import Derived.Test.YtgaegajcejpmdaaGreatDoorRows
import Derived.Test.YtgaegajcejpmdaaGreatDoorHJ9
import Derived.Lib.ItoaMem
import Derived.Lib.AppendIntMem
import Derived.Test.YtgaegajcejpmdaaGreatDoorHJ5
import Derived.LaidLaws
namespace Go.Proofs.YtgaegajcejpmdaaGreatDoor.Dc
open Go.RowKit
set_option linter.unusedVariables false
set_option linter.unusedSimpArgs false

/-- The table of tens, as the row names it. -/
def tabN : String := (Rows.kindTablesRow.laid.map (·.1)).getD 2 (Rows.kindTablesRow.func)
/-- The table stands. -/
def Tab (w : World) : Prop := Lib.TabIs Tryz.prog w tabN .u64 Lib.pow10Tab
theorem Tab.below {w w' : World} (h : Tab w) (hb : Below w.heap.size w w') : Tab w' := (Lib.tabBelow_of_tabIs h) w' hb
theorem grow_below (w : World) (k : Nat) (os : Array Obj) : Below w.heap.size w (Sort.grow (w.drewN k) os) := by
  refine ⟨rfl, rfl, rfl, by simp [Sort.grow], fun b hb => ?_⟩
  simp only [Sort.grow]
  rw [Array.getElem?_append_left (by simpa using hb)]
  rfl
theorem itoa_p (n : Int) (h0 : -9223372036854775808 ≤ n) (h1 : n ≤ 9223372036854775807) (w : World) (ht : Tab w) : Calls Tryz.prog 85 #[.int .i64 n] w fun e w' => e = .returned (.string ⟨(Lib.itoa n).toArray⟩) ∧ Below w.heap.size w w' := by
  refine Calls.mono (Any.strconv_Itoa Tryz.laysM171 n h0 h1 w ht) ?_
  rintro e w' ⟨rfl, k, os, rfl⟩
  exact ⟨rfl, grow_below w k os⟩
theorem bl_itoa (n : Int) : bl ⟨(Lib.itoa n).toArray⟩ = (Lib.itoa n).map fun c => (c.toNat : Int) := by unfold bl; simp
theorem in_len (n : Int) (h0 : -9223372036854775808 ≤ n) (h1 : n ≤ 9223372036854775807) : (inS n).2.1.length ≤ 4096 ∧ CN (inS n) := by
  have := par_ok (par_itoa n h0 h1)
  exact ⟨this.2.2.1, this.1⟩
/-- A row of bytes is no box of a number. -/
theorem BtR.apart {w : World} {v : Value} {l : List Int} {X : Nat} {b : Bool} {p : Option Addr} {q r : Nat} {k : Int} {t : TypeId} (h : BtR w v l) (hX : w.heap[X]? = some (.cells #[.bool b, .slice p q r, .int .i64 k] t (0, 0))) : ∀ j, v.ownBlock = some j → l ≠ [] → j ≠ X := by
  obtain ⟨a, cap, rfl, h1, h2, h3, h4⟩ := h
  intro j hj hn e
  rcases h4 with h4 | ⟨g, o, rfl, h5, h6⟩
  · exact hn h4
  · simp [Value.ownBlock] at hj
    have hg : g = X := by omega
    subst hg
    have hp : 0 < l.length := List.length_pos_iff.2 hn
    have := h6 0 hp
    rw [Nat.add_zero] at this
    simp only [World.cell?, hX] at this
    match o with
    | 0 => simp at this
    | 1 => simp at this
    | 2 => simp at this
    | o + 3 => simp at this
set_option maxRecDepth 100000 in
set_option maxHeartbeats 1600000 in
theorem int_p (n : Int) (h0 : -9223372036854775808 ≤ n) (h1 : n ≤ 9223372036854775807) (w : World) (ht : Tab w) : Calls Tryz.prog 109 #[.int .i64 n] w fun e w' => ∃ a c, e = .returned (nmV (inS n).1 (.slice a (inS n).2.1.length c) (inS n).2.2) ∧ NmR w' (.slice a (inS n).2.1.length c) (inS n) ∧ Below w.heap.size w w' := by
  have hb0 : Below w.heap.size w (w.alloc zP) := (Below.refl _ _).alloc (Nat.le_refl _) _
  have hR0 := nw_heap w zP
  have hit := itoa_p n h0 h1 _ (ht.below hb0)
  have hpa := par_itoa n h0 h1
  rw [← bl_itoa] at hpa
  have hsz : (⟨(Lib.itoa n).toArray⟩ : ByteArray).size ≤ 4096 := by
    have := (par_ok hpa).2.2.2
    rwa [bl_len] at this
  have hcn := in_len n h0 h1
  generalize (⟨(Lib.itoa n).toArray⟩ : ByteArray) = s at *
  generalize inS n = N at *
  have HH : Hid _ := And.intro hb0 (And.intro hR0 (And.intro hit (And.intro hpa hcn)))
  clear hb0 hR0 hit hpa ht hcn
  obtain ⟨n1, n2, n3⟩ := N
  go_enter Tryz.func109, Tryz.ntmps109
  go_wp2_with fail
  refine Calls.mono HH.out.2.2.1 ?_
  rintro e w1 ⟨rfl, hb1⟩
  have hbw1 := HH.out.1.trans (hb1.mono HH.out.1.size)
  have hz1 := (hb1.block _ (lt_of HH.out.2.1)).trans HH.out.2.1
  have H1 : Hid _ := And.intro hbw1 hz1
  clear hb1 hbw1 hz1
  go_wp2_with fail
  refine Calls.mono (parse_p s _ (by unfold maxLen; omega)) ?_
  rintro e w2 hp
  obtain ⟨hb2, h2⟩ := hp
  rw [HH.out.2.2.2.1] at h2
  obtain ⟨rv, rfl, hbt⟩ := h2
  dsimp only at hbt ⊢
  obtain ⟨rb, rd, rfl, hrd1, hrd2⟩ := hbt.form
  have hne : n2 ≠ [] := fun e => by have := HH.out.2.2.2.2.2.1.len; rw [e] at this; simp at this
  have hz2 := (hb2.block _ (lt_of H1.out.2)).trans H1.out.2
  have hbw2 := H1.out.1.trans (hb2.mono H1.out.1.size)
  have hlt2 := lt_of hz2
  have hne2 : w.heap.size ≠ w2.heap.size := by omega
  have hbA : Below w2.heap.size w2 (w2.alloc (.cells #[.bool n1, .slice rb n2.length rd, .int .i64 n3] 34)) := (Below.refl _ _).alloc (Nat.le_refl _) _
  obtain ⟨r0, r1, r2⟩ := bl3 hz2
  obtain ⟨rf0, rf1, rf2⟩ := bl3f hz2
  have hzA := (hbA.block _ (lt_of hz2)).trans hz2
  have H2 : Hid _ := And.intro hbt (And.intro hz2 (And.intro hbw2 (And.intro hbA (And.intro hzA hne))))
  clear hbt hz2 hbw2 hbA hzA hne hb2 H1
  go_wp2_with fail
  obtain ⟨q1, q2, q3, q4⟩ := set3 H2.out.2.2.1 (Nat.le_refl _) H2.out.2.1 (.bool n1) (.slice rb n2.length rd) (.int .i64 n3)
  have hbt9 := H2.out.1.kept (Nat.le_of_eq q4.symm) q3 (H2.out.1.apart H2.out.2.1)
  generalize (((w2.setCell ⟨w.heap.size, 0, none⟩ (.bool n1)).setCell ⟨w.heap.size, 1, none⟩ (.slice rb n2.length rd)).setCell ⟨w.heap.size, 2, none⟩ (.int .i64 n3)) = W9 at *
  have hbX : Below W9.heap.size W9 (W9.alloc (.cells #[.bool n1, .slice rb n2.length rd, .int .i64 n3] 34)) := (Below.refl _ _).alloc (Nat.le_refl _) _
  obtain ⟨y0, y1, y2⟩ := bl3 ((hbX.block _ (lt_of q1)).trans q1)
  have hbt10 := hbt9.below hbX
  have hb10 := q2.trans (hbX.mono q2.size)
  generalize (W9.alloc (.cells #[.bool n1, .slice rb n2.length rd, .int .i64 n3] 34)) = W10 at *
  exact bodyPost_ret (v := nmV n1 (.slice rb n2.length rd) n3) (by simp [results, Tryz.results109, go_sem, y0, y1, y2]) rfl ⟨rb, rd, rfl, ⟨hbt10, HH.out.2.2.2.2.2, HH.out.2.2.2.2.1⟩, hb10⟩
end Go.Proofs.YtgaegajcejpmdaaGreatDoor.Dc
namespace Go.Proofs.YtgaegajcejpmdaaGreatDoor
open Go.RowKit
set_option linter.unusedVariables false

theorem var_below {P : Program} {w w' : World} {n : String} {cs : Array Value} (h : w.var? P n = some cs) (hb : Below w.heap.size w w') : w'.var? P n = some cs := by
  unfold World.var? at h ⊢
  cases hg : P.globalNamed n with
  | none => simp [hg] at h
  | some g =>
    simp only [hg, Option.bind_some] at h ⊢
    have hlt : g < w.heap.size := by
      rcases Nat.lt_or_ge g w.heap.size with h' | h'
      · exact h'
      · simp [Array.getElem?_eq_none h'] at h
    rw [hb.block g hlt]
    exact h
structure Lw (w : World) : Prop where
  tab : Dc.Tab w
  nm : NmG w
  er : ∃ tp p, w.var? Tryz.prog "strconv.ErrRange" = some #[.iface tp p]
  es : ∃ tp p, w.var? Tryz.prog "strconv.ErrSyntax" = some #[.iface tp p]
theorem Lw.below {w w' : World} (h : Lw w) (hb : Below w.heap.size w w') : Lw w' := by
  obtain ⟨tp, p, e1⟩ := h.er
  obtain ⟨tq, q, e2⟩ := h.es
  exact ⟨h.tab.below hb, h.nm.below hb, ⟨tp, p, var_below e1 hb⟩, ⟨tq, q, var_below e2 hb⟩⟩
end Go.Proofs.YtgaegajcejpmdaaGreatDoor
