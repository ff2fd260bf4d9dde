/- The second telling: a set as its own; Same. -/
import Derived.Test.YteddjjabbehfdaaP9
import Derived.Test.YteddjjabbehfdaaOpn
namespace Go.Proofs.Yteddjjabbehfdaa
open Go.RowKit
set_option linter.unusedVariables false

theorem info_rr : (Try.prog.info? 58).map (fun i => (i.zero.map fun z => z.cells.size, i.size, i.bytes)) = some (some 2, 2, 16) := by kernel_rfl
theorem info_rrp : ∃ i z, Try.prog.info? 58 = some i ∧ i.zero = some z ∧ z.cells.size = 2 ∧ i.size = 2 ∧ i.bytes = 16 := by
  have := info_rr
  cases h : Try.prog.info? 58 with
  | none => rw [h] at this; simp at this
  | some i =>
    rw [h] at this
    simp at this
    obtain ⟨⟨z, h1, h2⟩, h3, h4⟩ := this
    exact ⟨i, z, rfl, h1, h2, h3, h4⟩
theorem cn_in32 {l : List Rg} (h : Cn l) : In32 l := fun r hr => by
  have := h.ok r hr
  have hM : MX = 1114111 := rfl
  omega
def OfrQ (l : List Rg) (w : World) (e : Ending) (w' : World) : Prop := ∃ a c, e = .returned (.slice a l.length c) ∧ Own .i64 58 w' w.heap.size (.slice a l.length c) l ∧ Below w.heap.size w w'
set_option maxHeartbeats 4000000 in
theorem ofr_r (v : Value) (l : List Rg) (w : World) (h : Sl .i32 w v l) (hi32 : In32 l) (hn : l.length ≤ 100000) : Calls Try.prog 11 #[v] w fun e w' => OfrQ l w e w' := by
  obtain ⟨i58, z58, hi58, hz0, hzc, hz1, hz3⟩ := info_rrp
  obtain ⟨la, lc, rfl, _⟩ := h.len
  have HX : Hid _ := And.intro h hi32
  clear h hi32
  go_enter Try.func11, Try.ntmps11
  go_wp2_with fail
  go_loopg [3, 4] l.length (fun g v3 v4 wr => ∃ k : Nat, k + g = l.length ∧ v4 = .int .i64 (k : Int) ∧ Own .i64 58 wr w.heap.size v3 (l.take k) ∧ Below w.heap.size w wr)
  case atStart => exact ⟨0, by omega, rfl, Own.nil _ _ _ _, Below.refl _ _⟩
  case round =>
    obtain ⟨k, hk, rfl, hown, hb⟩ := hrel
    obtain ⟨va, vc, rfl⟩ := own_form hown
    have HB : Hid _ := And.intro hown hb
    clear hown hb
    by_cases hlt : k < l.length
    · obtain ⟨g, rfl⟩ : ∃ g, gk = g + 1 := ⟨gk - 1, by omega⟩
      obtain ⟨a', c', e, _, hx⟩ := HX.out.1
      simp only [Value.slice.injEq] at e
      obtain ⟨rfl, hdd, rfl⟩ := e
      clear hdd
      rcases hx with hx | ⟨b, off, rfl, hbl, hx⟩
      · rw [hx] at hlt; simp at hlt
      have hcells : ∀ W, Below w.heap.size w W → (W.cell? ⟨b, off + k * 2, none⟩ = some (.int .i32 l[k].1) ∧ W.cell? ⟨b, off + k * 2 + 1, none⟩ = some (.int .i32 l[k].2)) := fun W hW =>
        ⟨(hW.cell (p := ⟨b, off + k * 2, none⟩) hbl).trans (hx k hlt).1, (hW.cell (p := ⟨b, off + k * 2 + 1, none⟩) hbl).trans (hx k hlt).2⟩
      have hin := HX.out.2 l[k] (by simp)
      have htk := take_snoc hlt
      have htl : (l.take k).length ≤ 1000000 := by rw [List.length_take]; omega
      generalize l[k] = r at *
      obtain ⟨r0, r1⟩ := r
      dsimp only at *
      obtain ⟨⟨n1, n2⟩, n3, n4⟩ := hin
      obtain ⟨P, hP⟩ : ∃ P, l.take k = P := ⟨_, rfl⟩
      rw [hP] at HB htk htl ⊢
      have HC : Hid _ := And.intro hcells htk
      clear hx hcells htk hP
      obtain ⟨PL, hPL⟩ : ∃ PL, P.length = PL := ⟨_, rfl⟩
      have HPL : Hid _ := hPL
      rw [hPL] at HB htl ⊢
      clear hPL
      go_upto_region 5 with fail
      have hbd : Below w.heap.size w wr.drew := bdrewN HB.out.2 1
      obtain ⟨k0, k1⟩ := HC.out.1 _ hbd
      have hal : ∀ o, Below w.heap.size w (wr.alloc o).drew := fun o => bdrewN (HB.out.2.trans (((Below.refl _ _).alloc (Nat.le_refl _) o).mono HB.out.2.size)) 1
      have HD : Hid _ := hal
      clear hbd hal
      have i0 : (0 : Int) ≤ (k : Int) := by omega
      have i1 : (k : Int) < (l.length : Int) := by omega
      have c64 : IntKind.i64.wrap r0 = r0 := by rw [IntKind.wrap_i64]; omega
      have c65 : IntKind.i64.wrap r1 = r1 := by rw [IntKind.wrap_i64]; omega
      go_region_held_law (fun W => W.cell? ⟨b, off + k * 2, none⟩ = some (.int .i32 r0) ∧ W.cell? ⟨b, off + k * 2 + 1, none⟩ = some (.int .i32 r1)) (first | with_reducible exact ⟨k0, k1⟩ | with_reducible exact HC.out.1 _ (HD.out _) | with_reducible exact HC.out.1 _ HB7.out | fail)
        (first
          | (refine step_put_d wr .i64 58 26 i58 z58 16 Try.underlying26 hi58 hz0 hzc hz1 hz3 (by decide) (.tmp 11) (.tmp 25) rfl rfl w.heap.size (.slice va PL vc) P rfl HB.out.1 (r0, r1) rfl (by rw [HPL.out]; exact htl) HB.out.2.size ?_; intro v' w7 hown7 hb7 hv7; have HB7 : Hid (Below w.heap.size w w7) := HB.out.2.trans hb7.1; have H7 : Hid _ := And.intro hown7 hv7; clear hown7 hb7 hv7)
          | fail)
      all_goals
        go_wp2_with fail
        go_roundg g
        case measure => omega
        case rel =>
          refine ⟨k + 1, by omega, by simp, ?_, HB7.out⟩
          rw [HC.out.2]
          exact H7.out.1
    · have hkl : k = l.length := by omega
      subst hkl
      rw [List.take_length] at HB ⊢
      go_wp2_with fail
      go_ret
      exact ⟨va, vc, rfl, HB.out.1, HB.out.2⟩
/-- A set of the second telling. -/
abbrev sV (v : Value) : Value := .agg #[v]
def OfsQ (l : List Rg) (w : World) (e : Ending) (w' : World) : Prop := ∃ a c, e = .returned (sV (.slice a l.length c)) ∧ Own .i64 58 w' w.heap.size (.slice a l.length c) l ∧ Below w.heap.size w w'
theorem blk1 {U : World} {X : Nat} {a : Value} {t : TypeId} (hx : U.heap[X]? = some (.cells #[a] t (0, 0))) : U.cell? ⟨X, 0, none⟩ = some a ∧ U.frozen? ⟨X, 0, none⟩ = false := by
  refine ⟨?_, ?_⟩ <;> simp [World.cell?, World.frozen?, hx]
set_option maxHeartbeats 1000000 in
theorem ofs_r (v : Value) (l : List Rg) (w : World) (h : Sl .i32 w v l) (hi32 : In32 l) (hn : l.length ≤ 100000) : Calls Try.prog 13 #[v] w fun e w' => OfsQ l w e w' := by
  obtain ⟨la, lc, rfl, _⟩ := h.len
  have hb0 : Below w.heap.size w (w.alloc (.cells #[.slice none 0 0] 28)) := (Below.refl _ _).alloc (Nat.le_refl _) _
  have q1 := ofr_r _ l _ (h.below hb0) hi32 hn
  have HQ : Hid _ := And.intro q1 (And.intro hb0 (nw_heap w (.cells #[.slice none 0 0] 28)))
  clear q1 hb0 h
  go_enter Try.func13, Try.ntmps13
  go_wp2_with fail
  refine Calls.mono HQ.out.1 ?_
  rintro e w2 ⟨a, c, rfl, hown, hb⟩
  have hx := (hb.block _ (lt_of HQ.out.2.2)).trans HQ.out.2.2
  obtain ⟨c0, f0⟩ := blk1 hx
  have hbb := HQ.out.2.1.trans (hb.mono HQ.out.2.1.size)
  have hne : ∀ j, (Value.slice a l.length c).ownBlock = some j → j ≠ w.heap.size := fun j hj => by have := (row_base hown j hj).1; rw [sza] at this; omega
  have hwn : w.heap.size < w2.heap.size := lt_of hx
  have H2 : Hid _ := And.intro (hown.mono (base' := w.heap.size) (by rw [sza]; omega)) (And.intro hbb (And.intro hx hne))
  clear hown hb hx hbb hne
  go_wp2_with fail
  have hx2 := bset (i := 0) H2.out.2.2.1 (.slice a l.length c)
  simp only [List.setIfInBounds_toArray, List.set_cons_zero] at hx2
  obtain ⟨k0, _⟩ := blk1 hx2
  refine bodyPost_ret (v := sV (.slice a l.length c)) (by simp [results, Try.results13, go_sem, k0]) rfl ⟨a, c, rfl, ?_, H2.out.2.1.setCell (p := ⟨w.heap.size, 0, none⟩) (Nat.le_refl _) _⟩
  exact row_fro H2.out.1 (O := fun j => j = w.heap.size) ((Fro.refl (fun j => j = w.heap.size) w2).set (.inl rfl) _) (fun j hj => H2.out.2.2.2 j hj)
end Go.Proofs.Yteddjjabbehfdaa
