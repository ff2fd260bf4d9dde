/- The law's own check of known answers. -/
import Derived.Test.YtjcgnbmpnaapdaaDoorQ21
import Derived.Lib.SlBytesConst
namespace Go.Proofs.YtjcgnbmpnaapdaaDoor
open Go.RowKit
set_option linter.unusedVariables false

def doc1 : Bs := [60, 97, 32, 98, 61, 39, 49, 39, 62, 120, 38, 97, 109, 112, 59, 60, 99, 47, 62, 60, 47, 97, 62]
def doc2 : Bs := [60, 97, 62, 60, 98, 62, 60, 47, 97, 62]
def evs1 : List Ev := [⟨1, 0, [97], [], [⟨[98], [49], 3⟩]⟩, ⟨3, 9, [], [120, 38], []⟩, ⟨1, 15, [99], [], []⟩, ⟨2, 17, [99], [], []⟩, ⟨2, 19, [97], [], []⟩]
set_option maxRecDepth 100000 in
theorem all1 : allB doc1 (limS 0 0 0 0) = (evs1, 0, 0) := by kernel_rfl
set_option maxRecDepth 100000 in
theorem all2 : ∃ es, allB doc2 (limS 0 0 0 0) = (es, 6, 2) := ⟨[⟨1, 0, [97], [], []⟩, ⟨1, 3, [98], [], []⟩], by kernel_rfl⟩
theorem cw_bi (w : World) (l : Bs) (c : Nat) (hl : ∀ i, 0 ≤ l.getD i 0 ∧ l.getD i 0 < 256) (hm : l.length ≤ 1000) : BI (cw w l) (.slice (some ⟨w.heap.size, 0, none⟩) l.length c) l := by
  refine ⟨.inr ⟨_, c, rfl, fun j u hu => ?_⟩, hl, by unfold maxLen; omega⟩
  rw [addr_add]
  have h := heap_alloc_new w (.cells (l.map (Value.int .u8)).toArray 5 (l.length, l.length + 1))
  unfold cw
  simp only [World.cell?, h]
  simpa using hu
theorem doc1_bd : ∀ i, 0 ≤ doc1.getD i 0 ∧ doc1.getD i 0 < 256 := by
  intro i
  by_cases h : i < 23
  · exact (by decide : ∀ i, i < 23 → 0 ≤ doc1.getD i 0 ∧ doc1.getD i 0 < 256) i h
  · have : doc1.getD i 0 = 0 := by rw [List.getD_eq_getElem?_getD, List.getElem?_eq_none (by show 23 ≤ i; omega)]; rfl
    rw [this]; omega
theorem doc2_bd : ∀ i, 0 ≤ doc2.getD i 0 ∧ doc2.getD i 0 < 256 := by
  intro i
  by_cases h : i < 10
  · exact (by decide : ∀ i, i < 10 → 0 ≤ doc2.getD i 0 ∧ doc2.getD i 0 < 256) i h
  · have : doc2.getD i 0 = 0 := by rw [List.getD_eq_getElem?_getD, List.getElem?_eq_none (by show 10 ≤ i; omega)]; rfl
    rw [this]; omega
structure Kn (g off ga gc : Nat) (w : World) : Prop where
  a : w.cell? ⟨g, off + 4, none⟩ = some (.slice (some ⟨ga, 0, none⟩) 1 gc)
  b : w.cell? ⟨ga, 1, none⟩ = some (.string ⟨#[49]⟩)
  c : w.cell? ⟨g, off + 8, none⟩ = some (.string ⟨#[120, 38]⟩)
  d : w.cell? ⟨g, off + 15, none⟩ = some (.int .i64 2)
  e : w.cell? ⟨g, off + 16, none⟩ = some (.int .i64 17)
theorem Kn.below {g off ga gc : Nat} {w w' : World} (h : Kn g off ga gc w) (hb : Below w.heap.size w w') : Kn g off ga gc w' := ⟨blk_cell hb h.a, blk_cell hb h.b, blk_cell hb h.c, blk_cell hb h.d, blk_cell hb h.e⟩
theorem kn_of {w1 w2 : World} {e : Ending} (h : AllP w1 (evs1, 0, 0) e w2) : ∃ g off cap ga gc, e = .returned (.tuple #[.slice (some ⟨g, off, none⟩) 5 cap, .int .i64 0, .int .i64 0]) ∧ 5 ≤ cap ∧ cap ≤ maxLen ∧ 1 ≤ gc ∧ gc ≤ maxLen ∧ Kn g off ga gc w2 ∧ Below w1.heap.size w1 w2 := by
  obtain ⟨B, sv, xs, rfl, hB, hr, he, hb⟩ := h
  rcases hr with ⟨_, h0, _⟩ | ⟨g, off, cap, rfl, hBg, _, hnc, hcm, hxl, hcell⟩
  · simp [evs1] at h0
  obtain ⟨s1, y1, rfl, ⟨ha1, _⟩, he1⟩ := he
  obtain ⟨s2, y2, rfl, _, he2⟩ := he1
  obtain ⟨s3, y3, rfl, _, he3⟩ := he2
  obtain ⟨s4, y4, rfl, _, he4⟩ := he3
  obtain ⟨s5, y5, rfl, _, he5⟩ := he4
  rcases ha1.form with ⟨_, h0⟩ | ⟨ga, gc, rfl, hc1, hc2, _⟩
  · simp at h0
  have hat := AR.cell ha1 0 1 (by simp) (by omega)
  refine ⟨g, off, cap, ga, gc, rfl, hnc, hcm, hc1, hc2, ⟨?_, ?_, ?_, ?_, ?_⟩, hb⟩
  · have := hcell 4 (by simp [evs1]); simpa [evHead] using this
  · have e : sb [49] = ⟨#[49]⟩ := by decide
    rw [← e]; simpa [atCells] using hat
  · have e : sb [120, 38] = ⟨#[120, 38]⟩ := by decide
    rw [← e]; have := hcell 8 (by simp [evs1]); simpa [evHead] using this
  · have := hcell 15 (by simp [evs1]); simpa [evHead] using this
  · have := hcell 16 (by simp [evs1]); simpa [evHead] using this
set_option maxRecDepth 100000 in
set_option maxHeartbeats 1600000 in
theorem known_s {w : World} (hT : Tab w) : Calls Tryd.prog 8 #[] w fun e w' => e = .returned (.bool true) ∧ Below w.heap.size w w' := by
  have hcs1 := Lib.run_convert_bytes_const (P := Tryd.prog) w 25 5 #[.int .u8 60, .int .u8 97, .int .u8 32, .int .u8 98, .int .u8 61, .int .u8 39, .int .u8 49, .int .u8 39, .int .u8 62, .int .u8 120, .int .u8 38, .int .u8 97, .int .u8 109, .int .u8 112, .int .u8 59, .int .u8 60, .int .u8 99, .int .u8 47, .int .u8 62, .int .u8 60, .int .u8 47, .int .u8 97, .int .u8 62] 23 23 Tryd.underlying25 Tryd.underlying5
  change _ = Result.ok _ (cw w doc1) at hcs1
  have hb1 := cw_below w doc1
  have hbi1 := cw_bi w doc1 23 doc1_bd (by decide)
  generalize cw w doc1 = w1 at *
  have h0 : 0 < w.heap.size := World.block_lt_of_cell? w _ hT.a
  have ht1 := hT.lower hb1 h0
  have HH : Hid _ := And.intro hb1 (And.intro hbi1 ht1)
  clear hb1 hbi1 ht1
  go_enter Tryd.func8, Tryd.ntmps8
  go_wp2_with fail
  refine (all_b 0 0 0 0 0 0 HH.out.2.1 HH.out.2.2).mono ?_
  rw [all1]
  intro e w2 hP
  obtain ⟨g, off, cap, ga, gc, rfl, hc1, hc2, hc3, hc4, hK, hb2⟩ := kn_of hP
  have hcs2 := Lib.run_convert_bytes_const (P := Tryd.prog) w2 25 5 #[.int .u8 60, .int .u8 97, .int .u8 62, .int .u8 60, .int .u8 98, .int .u8 62, .int .u8 60, .int .u8 47, .int .u8 97, .int .u8 62] 10 10 Tryd.underlying25 Tryd.underlying5
  change _ = Result.ok _ (cw w2 doc2) at hcs2
  have hb3 := cw_below w2 doc2
  have hbi3 := cw_bi w2 doc2 10 doc2_bd (by decide)
  generalize cw w2 doc2 = w3 at *
  have hz1 := HH.out.1.size
  have ht3 := (HH.out.2.2.lower hb2 (by omega)).lower hb3 (by have := hb2.size; omega)
  have H2 : Hid _ := And.intro hb2 (And.intro hb3 (And.intro hbi3 (And.intro ht3 (hK.below hb3))))
  clear hb2 hb3 hbi3 ht3 hK hP
  go_wp2_with fail
  obtain ⟨es, h2⟩ := all2
  refine (all_b 0 0 0 0 0 0 H2.out.2.2.1 H2.out.2.2.2.1).mono ?_
  rw [h2]
  rintro e w4 ⟨B4, sv4, xs4, rfl, _, _, _, hb4⟩
  have hK := H2.out.2.2.2.2.below hb4
  have ka := hK.a
  have kb := hK.b
  have kc := hK.c
  have kd := hK.d
  have ke := hK.e
  have H4 : Hid _ := hb4
  clear hb4 hK h2
  unfold maxLen at hc2 hc4
  go_wp2_with fail
  refine (esc_any true [60, 34] w4 (by decide)).mono ?_
  rintro e w5 ⟨rfl, hb5⟩
  have hesc : (⟨(escU true [60, 34]).toArray⟩ : ByteArray) = ⟨#[38, 108, 116, 59, 38, 113, 117, 111, 116, 59]⟩ := by decide
  rw [hesc]
  have H5 : Hid _ := hb5
  clear hb5 hesc
  go_wp2_with fail
  go_ret
  have z2 := H2.out.1.size
  have z3 := H2.out.2.1.size
  have z4 := H4.out.size
  exact ⟨rfl, (((HH.out.1.trans (H2.out.1.mono hz1)).trans (H2.out.2.1.mono (by omega))).trans (H4.out.mono (by omega))).trans (H5.out.mono (by omega))⟩
end Go.Proofs.YtjcgnbmpnaapdaaDoor
