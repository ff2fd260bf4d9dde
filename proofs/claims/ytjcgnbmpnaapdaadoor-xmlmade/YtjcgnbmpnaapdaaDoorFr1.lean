/- The statement's own Of: an event as the reference's. -/
import Derived.Test.YtjcgnbmpnaapdaaDoorNst
import Derived.Test.YtjcgnbmpnaapdaaDoorM15
import Derived.Deep.RegionLawGrows
namespace Go.Proofs.YtjcgnbmpnaapdaaDoor
open Go.RowKit
set_option linter.unusedVariables false

/-- A row of attributes of the reference's, of its own. -/
abbrev RA (B : Nat) (w : World) (sv : Value) (l : List At) : Prop := w.ownsRow B 70 3 sv l.length (l.flatMap atCells)
/-- Attributes, to be read. -/
structure AC (w : World) (sv : Value) (l : List At) : Prop where
  f : ∃ a c, sv = .slice a l.length c ∧ l.length ≤ c ∧ c ≤ maxLen ∧ (l ≠ [] → ∃ g, a = some ⟨g, 0, none⟩ ∧ ∀ i x, l[i]? = some x → w.cell? ⟨g, i * 3, none⟩ = some (.string (sb x.name)) ∧ w.cell? ⟨g, i * 3 + 1, none⟩ = some (.string (sb x.value)) ∧ w.cell? ⟨g, i * 3 + 2, none⟩ = some (.int .i64 x.place))
theorem own_ac {B size : Nat} {e : TypeId} {w : World} {sv : Value} {l : List At} (hs : size = 3) (h : w.ownsRow B e size sv l.length (l.flatMap atCells)) : AC w sv l := by
  subst hs
  rcases h.2 with ⟨rfl, h0⟩ | ⟨g, cap, cur, rfl, hbg, hg, hnc, hcm, hcs, htake⟩
  · have : l = [] := List.eq_nil_of_length_eq_zero h0
    subst this
    exact ⟨none, 0, rfl, Nat.le_refl _, by unfold maxLen; omega, fun q => absurd rfl q⟩
  · refine ⟨_, cap, rfl, hnc, hcm, fun _ => ⟨g, rfl, fun i x hx => ?_⟩⟩
    obtain ⟨hi, hxe⟩ := List.getElem?_eq_some_iff.1 hx
    have key : ∀ c u, c < 3 → (atCells x)[c]? = some u → w.cell? ⟨g, i * 3 + c, none⟩ = some u := by
      intro c u hc hu
      have hq := at_get l i c hi hc
      rw [hxe, hu] at hq
      have := World.ownsRow.cells h (g := g) rfl (3 * i + c) _ hq
      rw [addr_add, Nat.zero_add] at this
      rw [Nat.mul_comm i 3]
      exact this
    exact ⟨key 0 _ (by omega) rfl, key 1 _ (by omega) rfl, key 2 _ (by omega) rfl⟩
theorem AC.below {w w' : World} {sv : Value} {l : List At} (h : AC w sv l) (hb : Below w.heap.size w w') : AC w' sv l := by
  obtain ⟨a, c, e, h1, h2, h3⟩ := h.f
  refine ⟨a, c, e, h1, h2, fun hn => ?_⟩
  obtain ⟨g, ha, hc⟩ := h3 hn
  exact ⟨g, ha, fun i x hx => ⟨blk_cell hb (hc i x hx).1, blk_cell hb (hc i x hx).2.1, blk_cell hb (hc i x hx).2.2⟩⟩
theorem info70 : (Tryd.prog.info? 70).map (fun i => (i.zero, i.size, i.bytes)) = some (some (.agg #[.string ⟨#[]⟩, .string ⟨#[]⟩, .int .i64 0]), 3, 40) := by kernel_rfl
theorem info70p : ∃ i, Tryd.prog.info? 70 = some i ∧ i.zero = some (.agg #[.string ⟨#[]⟩, .string ⟨#[]⟩, .int .i64 0]) ∧ i.size = 3 ∧ i.bytes = 40 := by
  have := info70
  cases h : Tryd.prog.info? 70 with
  | none => rw [h] at this; simp at this
  | some i => rw [h] at this; simp at this; exact ⟨i, rfl, this.1, this.2.1, this.2.2⟩
/-- The copy, at the loop's head: the blocks of the event, of the answer and of the copy, and the row so far. -/
structure OfI (w : World) (k p : Int) (nm tx : ByteArray) (sv : Value) (l : List At) (i : Nat) (rv : Value) (wr : World) : Prop where
  e : wr.heap[w.heap.size]? = some (.cells #[.int .i64 k, .int .i64 p, .string nm, .string tx, sv] 35 (0, 0))
  z : wr.heap[w.heap.size + 1]? = some (.cells #[.int .i64 0, .int .i64 0, .string ⟨#[]⟩, .string ⟨#[]⟩, .slice none 0 0] 44 (0, 0))
  r : wr.heap[w.heap.size + 1 + 1]? = some (.cells #[.int .i64 k, .int .i64 p, .string nm, .string tx, rv] 44 (0, 0))
  row : RA (w.heap.size + 1 + 1 + 1) wr rv (l.take i)
  bel : Below w.heap.size w wr
theorem OfI.start (w : World) (k p : Int) (nm tx : ByteArray) (sv : Value) (l : List At) : OfI w k p nm tx sv l 0 (.slice none 0 0) (((w.alloc (.cells #[.int .i64 k, .int .i64 p, .string nm, .string tx, sv] 35)).alloc (.cells #[.int .i64 0, .int .i64 0, .string ⟨#[]⟩, .string ⟨#[]⟩, .slice none 0 0] 44)).alloc (.cells #[.int .i64 k, .int .i64 p, .string nm, .string tx, .slice none 0 0] 44)) := by
  have h1 := heap_alloc_new w (.cells #[.int .i64 k, .int .i64 p, .string nm, .string tx, sv] 35)
  have h2 := heap_alloc_new (w.alloc (.cells #[.int .i64 k, .int .i64 p, .string nm, .string tx, sv] 35)) (.cells #[.int .i64 0, .int .i64 0, .string ⟨#[]⟩, .string ⟨#[]⟩, .slice none 0 0] 44)
  have h3 := heap_alloc_new ((w.alloc (.cells #[.int .i64 k, .int .i64 p, .string nm, .string tx, sv] 35)).alloc (.cells #[.int .i64 0, .int .i64 0, .string ⟨#[]⟩, .string ⟨#[]⟩, .slice none 0 0] 44)) (.cells #[.int .i64 k, .int .i64 p, .string nm, .string tx, .slice none 0 0] 44)
  have z1 : (w.alloc (.cells #[.int .i64 k, .int .i64 p, .string nm, .string tx, sv] 35)).heap.size = w.heap.size + 1 := by simp
  have z2 : ((w.alloc (.cells #[.int .i64 k, .int .i64 p, .string nm, .string tx, sv] 35)).alloc (.cells #[.int .i64 0, .int .i64 0, .string ⟨#[]⟩, .string ⟨#[]⟩, .slice none 0 0] 44)).heap.size = w.heap.size + 1 + 1 := by simp
  rw [z1] at h2
  rw [z2] at h3
  refine ⟨?_, ?_, h3, ⟨rfl, .inl ⟨rfl, rfl⟩⟩, (((Below.refl _ _).alloc (Nat.le_refl _) _).alloc (by simp) _).alloc (by simp; omega) _⟩
  · rw [Below.heap_alloc _ _ _ (by simp; omega), Below.heap_alloc _ _ _ (by simp)]; exact h1
  · rw [Below.heap_alloc _ _ _ (by simp)]; exact h2
def atA (a : At) : Array Value := #[.string (sb a.name), .string (sb a.value), .int .i64 a.place]
theorem OfI.more {w wr w3 : World} {k p : Int} {nm tx : ByteArray} {sv rv rv' : Value} {l : List At} {i : Nat} {a : At} (h : OfI w k p nm tx sv l i rv wr) (ha : l[i]? = some a) (hg : wr.grownBy w3 rv.ownBlock)
    (hrow : w3.ownsRow (w.heap.size + 1 + 1 + 1) 70 3 rv' ((l.take i).length + 1) ((l.take i).flatMap atCells ++ atCells a)) : OfI w k p nm tx sv l (i + 1) rv' (w3.setCell ⟨w.heap.size + 1 + 1, 4, none⟩ rv') := by
  have hB : w.heap.size + 1 + 1 < wr.heap.size := (Array.getElem?_eq_some_iff.1 h.r).1
  have hlt : ∀ b, rv.ownBlock = some b → w.heap.size + 1 + 1 + 1 ≤ b := fun b hb => (h.row.lt b hb).1
  have keep : ∀ b, b < w.heap.size + 1 + 1 + 1 → w3.heap[b]? = wr.heap[b]? := fun b hb => hg.block b (by omega) (fun e => by have := hlt b e.symm; omega)
  have hr3 : w3.heap[w.heap.size + 1 + 1]? = some (.cells #[.int .i64 k, .int .i64 p, .string nm, .string tx, rv] 44 (0, 0)) := (keep _ (by omega)).trans h.r
  have he3 := (keep w.heap.size (by omega)).trans h.e
  have hz3 := (keep (w.heap.size + 1) (by omega)).trans h.z
  have hst := Bk.set (i := 4) hr3 rv'
  have hne : ∀ b, b ≠ w.heap.size + 1 + 1 → (w3.setCell ⟨w.heap.size + 1 + 1, 4, none⟩ rv').heap[b]? = w3.heap[b]? := fun b hb => by
    exact hset hb
  refine ⟨?_, ?_, ?_, ?_, ?_⟩
  · rw [hne _ (by omega)]; exact he3
  · rw [hne _ (by omega)]; exact hz3
  · exact hst
  · have e : (l.take (i + 1)) = l.take i ++ [a] := by rw [List.take_add_one, ha]; rfl
    show World.ownsRow _ _ _ _ _ _ _
    rw [e, List.length_append, List.flatMap_append]
    have : ([a] : List At).flatMap atCells = atCells a := by simp
    rw [this]
    exact own_set hrow (fun q => by have := (hrow.lt _ q).1; omega) _
  · exact (h.bel.grown hg h.bel.size (fun b hb => by have := hlt b hb; omega)).setCell (by show w.heap.size ≤ w.heap.size + 1 + 1; omega) _
set_option maxRecDepth 100000 in
set_option maxHeartbeats 6400000 in
theorem of_s {w : World} (k p : Int) (nm tx : ByteArray) {sv : Value} {l : List At} (h : AC w sv l) (hl : l.length ≤ 64) :
    Calls Tryd.prog 15 #[.agg #[.int .i64 k, .int .i64 p, .string nm, .string tx, sv]] w fun e w' => ∃ rv, e = .returned (.agg #[.int .i64 k, .int .i64 p, .string nm, .string tx, rv]) ∧ AC w' rv l ∧ Below w.heap.size w w' := by
  obtain ⟨a, c, rfl, hc1, hc2, hcell⟩ := h.f
  unfold maxLen at hc2
  obtain ⟨i70, hi70, hz70, hs70, hb70⟩ := info70p
  have HC : Hid _ := hcell
  clear h hcell
  go_enter Tryd.func15, Tryd.ntmps15
  go_wp2_with fail
  go_loopg [4] l.length (fun m v4 wr => ∃ (i : Nat) (rv : Value), v4 = .int .i64 i ∧ i + m = l.length ∧ OfI w k p nm tx (.slice a l.length c) l i rv wr)
  case atStart => exact ⟨0, _, rfl, by omega, OfI.start w k p nm tx (.slice a l.length c) l⟩
  case round =>
    obtain ⟨i, rv, rfl, him, hI⟩ := hrel
    have HI : Hid _ := hI
    have e4 : wr.cell? ⟨w.heap.size, 4, none⟩ = some (.slice a l.length c) := Bk.cell (i := 4) hI.e
    have r4 : wr.cell? ⟨w.heap.size + 1 + 1, 4, none⟩ = some rv := Bk.cell (i := 4) hI.r
    have f4 : wr.frozen? ⟨w.heap.size + 1 + 1, 4, none⟩ = false := Bk.froz (i := 4) hI.r
    have hRlt : w.heap.size + 1 + 1 < wr.heap.size := (Array.getElem?_eq_some_iff.1 hI.r).1
    by_cases hi : i < l.length
    · obtain ⟨m, rfl⟩ : ∃ m, gk = m + 1 := ⟨gk - 1, by omega⟩
      have hnil : l ≠ [] := by rintro rfl; simp at hi
      obtain ⟨g, rfl, hx⟩ := HC.out hnil
      obtain ⟨x, hxa⟩ : ∃ x, l[i]? = some x := ⟨_, List.getElem?_eq_getElem hi⟩
      have q0 := blk_cell hI.bel (hx i x hxa).1
      have q1 := blk_cell hI.bel (hx i x hxa).2.1
      have q2 := blk_cell hI.bel (hx i x hxa).2.2
      have hiI : (i : Int) < (l.length : Int) := by omega
      have htl : (l.take i).length = i := by simp; omega
      have hrow := hI.row
      rw [RA, htl] at hrow
      obtain ⟨ra, rc, rfl⟩ : ∃ ra rc, rv = .slice ra i rc := by
        rcases hrow.2 with ⟨rfl, h0⟩ | ⟨g, cap, cur, rfl, _⟩
        · exact ⟨none, 0, by rw [h0]⟩
        · exact ⟨_, cap, rfl⟩
      have HRW : Hid _ := hrow
      have HTL : Hid _ := htl
      clear hrow htl
      have HX : Hid _ := hxa
      clear hI hx hxa
      go_wp2_with fail
      go_region_law (first
        | (refine step_append_lies _ rfl (.tmp 22) (.tmp 28) 42 rfl (w.heap.size + 1 + 1 + 1) 70 i70 (.agg #[.string ⟨#[]⟩, .string ⟨#[]⟩, .int .i64 0]) 3 40 Tryd.underlying42 hi70 hz70 hs70 hb70 rfl (by decide) (.slice ra i rc) i ((l.take i).flatMap atCells) (by simp [Act.eval]) (World.ownsRow.alloc HRW.out _) ⟨wr.heap.size, 0, none⟩ 1 1 (atCells x) (by simp [Act.eval]) rfl (new_cells wr (atA x) 70) (by intro u hu; simp [atCells] at hu; rcases hu with rfl | rfl | rfl <;> rfl) (by decide) (by unfold maxLen; omega) (by omega) (by simp; omega) _ rfl ?_
           intro g4 cap4 w4 hown4 hg4 hat4 hlt4
           have hneR : (Value.slice ra i rc).ownBlock ≠ some (w.heap.size + 1 + 1) := fun e => by have := (World.ownsRow.lt HRW.out _ e).1; omega
           have hcl : (wr.alloc (.cells (atA x) 70)).cell? ⟨w.heap.size + 1 + 1, 4, none⟩ = some (.slice ra i rc) := blk_cell (W := wr) ((Below.refl _ _).alloc (Nat.le_refl _) (.cells (atA x) 70)) r4
           have hfz : (wr.alloc (.cells (atA x) 70)).frozen? ⟨w.heap.size + 1 + 1, 4, none⟩ = false := blk_froz (W := wr) ((Below.refl _ _).alloc (Nat.le_refl _) (.cells (atA x) 70)) r4 f4
           have c4' : w4.cell? ⟨w.heap.size + 1 + 1, 4, none⟩ = some (.slice ra i rc) := far_cell hg4 hcl hneR
           have f4' : w4.frozen? ⟨w.heap.size + 1 + 1, 4, none⟩ = false := far_froz hg4 hcl hfz hneR
           clear hcl hfz
           have HN4 : Hid _ := And.intro hown4 hg4
           clear hown4 hg4 hat4 hlt4))
      all_goals
        go_wp2_with fail
        go_roundg m
        case measure => omega
        case rel =>
          refine ⟨i + 1, _, by simp, by omega, HI.out.more HX.out (w3 := w4) (grownBy_trans (grownBy_trans (World.grownBy_alloc wr (.cells (atA x) 70) _) (grownBy_drewN _ 1 _)) HN4.out.2) (by rw [HTL.out]; exact HN4.out.1)⟩
    · obtain rfl : i = l.length := by omega
      have hrow := hI.row
      rw [List.take_length] at hrow
      have k0 : wr.cell? ⟨w.heap.size + 1 + 1, 0, none⟩ = some (.int .i64 k) := Bk.cell (i := 0) hI.r
      have k1 : wr.cell? ⟨w.heap.size + 1 + 1, 1, none⟩ = some (.int .i64 p) := Bk.cell (i := 1) hI.r
      have k2 : wr.cell? ⟨w.heap.size + 1 + 1, 2, none⟩ = some (.string nm) := Bk.cell (i := 2) hI.r
      have k3 : wr.cell? ⟨w.heap.size + 1 + 1, 3, none⟩ = some (.string tx) := Bk.cell (i := 3) hI.r
      have z0 : wr.cell? ⟨w.heap.size + 1, 0, none⟩ = some (.int .i64 0) := Bk.cell (i := 0) hI.z
      have z1 : wr.cell? ⟨w.heap.size + 1, 1, none⟩ = some (.int .i64 0) := Bk.cell (i := 1) hI.z
      have z2 : wr.cell? ⟨w.heap.size + 1, 2, none⟩ = some (.string ⟨#[]⟩) := Bk.cell (i := 2) hI.z
      have z3 : wr.cell? ⟨w.heap.size + 1, 3, none⟩ = some (.string ⟨#[]⟩) := Bk.cell (i := 3) hI.z
      have z4 : wr.cell? ⟨w.heap.size + 1, 4, none⟩ = some (.slice none 0 0) := Bk.cell (i := 4) hI.z
      have y0 : wr.frozen? ⟨w.heap.size + 1, 0, none⟩ = false := Bk.froz (i := 0) hI.z
      have y1 : wr.frozen? ⟨w.heap.size + 1, 1, none⟩ = false := Bk.froz (i := 1) hI.z
      have y2 : wr.frozen? ⟨w.heap.size + 1, 2, none⟩ = false := Bk.froz (i := 2) hI.z
      have y3 : wr.frozen? ⟨w.heap.size + 1, 3, none⟩ = false := Bk.froz (i := 3) hI.z
      have y4 : wr.frozen? ⟨w.heap.size + 1, 4, none⟩ = false := Bk.froz (i := 4) hI.z
      have hbel := hI.bel
      have HW : Hid _ := And.intro hrow (And.intro hbel hI.z)
      obtain ⟨ra, rc, rfl⟩ : ∃ ra rc, rv = .slice ra l.length rc := by
        rcases hrow.2 with ⟨rfl, h0⟩ | ⟨g, cap, cur, rfl, _⟩
        · exact ⟨none, 0, by rw [h0]⟩
        · exact ⟨_, cap, rfl⟩
      clear hI hrow hbel
      go_wp2_with fail
      have hz : w.heap.size ≤ w.heap.size + 1 := by omega
      have hne : (Value.slice ra l.length rc).ownBlock ≠ some (w.heap.size + 1) := fun e => by have := (HW.out.1.lt _ e).1; omega
      have hrow5 := own_set (own_set (own_set (own_set (own_set HW.out.1 hne (i := 0) (.int .i64 k)) hne (i := 1) (.int .i64 p)) hne (i := 2) (.string nm)) hne (i := 3) (.string tx)) hne (i := 4) (.slice ra l.length rc)
      have hbel5 := ((((HW.out.2.1.setCell (p := ⟨w.heap.size + 1, 0, none⟩) hz (.int .i64 k)).setCell (p := ⟨w.heap.size + 1, 1, none⟩) hz (.int .i64 p)).setCell (p := ⟨w.heap.size + 1, 2, none⟩) hz (.string nm)).setCell (p := ⟨w.heap.size + 1, 3, none⟩) hz (.string tx)).setCell (p := ⟨w.heap.size + 1, 4, none⟩) hz (.slice ra l.length rc)
      have hblk := Bk.set (i := 4) (Bk.set (i := 3) (Bk.set (i := 2) (Bk.set (i := 1) (Bk.set (i := 0) HW.out.2.2 (.int .i64 k)) (.int .i64 p)) (.string nm)) (.string tx)) (.slice ra l.length rc)
      generalize hW5 : (((((wr.setCell ⟨w.heap.size + 1, 0, none⟩ (.int .i64 k)).setCell ⟨w.heap.size + 1, 1, none⟩ (.int .i64 p)).setCell ⟨w.heap.size + 1, 2, none⟩ (.string nm)).setCell ⟨w.heap.size + 1, 3, none⟩ (.string tx)).setCell ⟨w.heap.size + 1, 4, none⟩ (.slice ra l.length rc)) = W5 at *
      have t0 : W5.cell? ⟨w.heap.size + 1, 0, none⟩ = some (.int .i64 k) := Bk.cell (i := 0) hblk
      have t1 : W5.cell? ⟨w.heap.size + 1, 1, none⟩ = some (.int .i64 p) := Bk.cell (i := 1) hblk
      have t2 : W5.cell? ⟨w.heap.size + 1, 2, none⟩ = some (.string nm) := Bk.cell (i := 2) hblk
      have t3 : W5.cell? ⟨w.heap.size + 1, 3, none⟩ = some (.string tx) := Bk.cell (i := 3) hblk
      have t4 : W5.cell? ⟨w.heap.size + 1, 4, none⟩ = some (.slice ra l.length rc) := Bk.cell (i := 4) hblk
      exact bodyPost_ret (v := .agg #[.int .i64 k, .int .i64 p, .string nm, .string tx, .slice ra l.length rc]) (by simp [results, Tryd.results15, go_sem, t0, t1, t2, t3, t4]) rfl ⟨_, rfl, own_ac rfl hrow5, hbel5⟩
end Go.Proofs.YtjcgnbmpnaapdaaDoor
