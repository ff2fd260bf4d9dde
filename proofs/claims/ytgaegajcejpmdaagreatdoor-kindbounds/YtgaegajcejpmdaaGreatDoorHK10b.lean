/- The program: read, of decimal's kinds, at a text that is none. -/
import Derived.Test.YtgaegajcejpmdaaGreatDoorHK10
import Derived.Laws.Tables
import Derived.Laws.CopyRow
import Derived.Deep.MidRow
import Derived.Deep.RegionHeld3
import Derived.Deep.DeepCutAuto
namespace Go.Proofs.YtgaegajcejpmdaaGreatDoor
open Go.RowKit
set_option linter.unusedVariables false
set_option linter.unusedSimpArgs false

set_option maxRecDepth 100000 in
set_option maxHeartbeats 6400000 in
theorem readN_err {x : Int} (k : Int) (s : ByteArray) (w : World) (hk0 : 10 ≤ k) (hk1 : k ≤ 23) (hs : s.size ≤ 100000) (hq : Dc.parS (Dc.bl s) = .error x) : Calls Tryz.prog 37 #[.int .i64 k, .string s] w (RnP k s w) := by
  have hbx := BX.new w 40 (vlL 10 ⟨#[]⟩ false (.slice none 0 0) 0 z0 sp0)
  have hpr := fun W => prim10 k hk0 hk1 W
  have hpa := fun W => Dc.parse_p s W (by unfold maxLen; omega)
  have hx0 : (x == 0) = false := by rcases par_err hq with rfl | rfl <;> rfl
  have HX : Hid _ := hbx
  clear hbx
  go_enter Tryz.func37, Tryz.ntmps37
  go_wp2_with (first | (go_at_call 15; refine (hpr _).mono ?_; rintro e w1 ⟨rfl, hw1⟩; have hw2 := hw1.symm; clear hw1; subst hw2))
  refine (hpa _).mono ?_
  rintro e w2 ⟨hb2, h2⟩
  have hbx2 := HX.out.below hb2
  rw [hq] at h2
  obtain ⟨v0, rfl, hbt⟩ := h2
  obtain ⟨va, vc, hv0, _, hvc⟩ := hbt.form
  simp only [List.length_nil] at hv0
  subst hv0
  obtain ⟨g0, g1, g2, g3, g4, g5, g6, g7, g8, g9, g10, g11, g12, g13, g14, g15⟩ := c16 hbx2.blk
  obtain ⟨f0, f1, f2, f3, f4, f5, f6, f7, f8, f9, f10, f11, f12, f13, f14, f15⟩ := f16 hbx2.blk
  have hbx3 := (((hbx2.set 2 (.bool false)).set 3 (.slice va 0 vc)).set 4 (.int .i64 0))
  have HX3 : Hid _ := hbx3.of
  clear hbx3 hbx2 hbt hpa hpr HX hb2
  go_upto_region 13 with fail
  clear g0 g1 g2 g3 g4 g5 g6 g7 g8 g9 g10 g11 g12 g13 g14 g15 f0 f1 f2 f3 f4 f5 f6 f7 f8 f9 f10 f11 f12 f13 f14 f15
  generalize (((w2.setCell ⟨w.heap.size, 2, none⟩ (.bool false)).setCell ⟨w.heap.size, 3, none⟩ (.slice va 0 vc)).setCell ⟨w.heap.size, 4, none⟩ (.int .i64 0)) = W3 at *
  have hblk : W3.heap[w.heap.size]? = some (.cells [.int .i64 10, .string ⟨#[]⟩, .bool false, .slice va 0 vc, .int .i64 0, .int .i64 0, .int .i64 0, .int .i64 0, .int .i64 0, .int .i64 0, .int .i64 0, .bool false, .int .i64 0, .int .i64 0, .int .i64 0, .int .i64 0].toArray 40 (0, 0)) := HX3.out.blk
  have HQQ : Hid _ := hq
  clear hq hk0 hk1 hs
  refine wp_region_held_drew (S := fun W => W.heap[w.heap.size]? = some (.cells [.int .i64 10, .string ⟨#[]⟩, .bool false, .slice va 0 vc, .int .i64 0, .int .i64 0, .int .i64 0, .int .i64 0, .int .i64 0, .int .i64 0, .int .i64 0, .bool false, .int .i64 0, .int .i64 0, .int .i64 0, .int .i64 0].toArray 40 (0, 0))) (by kernel_rfl) hblk (fun hHeld => ?_)
  refine wpAnyH_take (i := 0) (v := .agg #[.int .i64 10, .string ⟨#[]⟩, .bool false, .slice va 0 vc, .int .i64 0, .int .i64 0, .int .i64 0, .int .i64 0, .int .i64 0, .int .i64 0, .int .i64 0, .bool false, .int .i64 0, .int .i64 0, .int .i64 0, .int .i64 0]) rfl (by kernel_rfl) (by kernel_rfl) (by kernel_rfl) (fun _ _ _ h => h) (yieldsIf_load_mid (by kernel_rfl) 40 _ rfl w.heap.size 0 rfl [.int .i64 10, .string ⟨#[]⟩, .bool false, .slice va 0 vc, .int .i64 0, .int .i64 0, .int .i64 0, .int .i64 0, .int .i64 0, .int .i64 0, .int .i64 0, .bool false, .int .i64 0, .int .i64 0, .int .i64 0, .int .i64 0] _ (fun W hW => rng0 hW) Tryz.underlying40 rfl (by kernel_rfl)) (by assumption) ?_
  try simp only [Act.put, List.getElem_toArray, List.getElem_cons_zero, List.getElem_cons_succ, List.setIfInBounds_toArray, List.set_cons_zero, List.set_cons_succ]
  refine wpAnyH_take (i := 1) (v := (.int .i64 x)) rfl (by kernel_rfl) (by kernel_rfl) (by kernel_rfl) (fun _ _ _ h => h) (Or.inl ⟨by kernel_rfl, fun w' hSw => (by (try dsimp only at hSw); go_simp)⟩) (by assumption) ?_
  try simp only [Act.put, List.getElem_toArray, List.getElem_cons_zero, List.getElem_cons_succ, List.setIfInBounds_toArray, List.set_cons_zero, List.set_cons_succ]
  refine wpAnyH_take (i := 2) (v := (.bool false)) rfl (by kernel_rfl) (by kernel_rfl) (by kernel_rfl) (fun _ _ _ h => h) (Or.inl ⟨by kernel_rfl, fun w' hSw => (by (try dsimp only at hSw); go_simp)⟩) (by assumption) ?_
  try simp only [Act.put, List.getElem_toArray, List.getElem_cons_zero, List.getElem_cons_succ, List.setIfInBounds_toArray, List.set_cons_zero, List.set_cons_succ]
  refine wpAnyH_take (i := 3) (v := (.bool false)) rfl (by kernel_rfl) (by kernel_rfl) (by kernel_rfl) (fun _ _ _ h => h) (Or.inl ⟨by kernel_rfl, fun w' hSw => (by (try dsimp only at hSw); go_simp)⟩) (by assumption) ?_
  try simp only [Act.put, List.getElem_toArray, List.getElem_cons_zero, List.getElem_cons_succ, List.setIfInBounds_toArray, List.set_cons_zero, List.set_cons_succ]
  refine wpAnyH_take (i := 4) (v := undef) rfl (by kernel_rfl) (by kernel_rfl) (by kernel_rfl) (fun _ _ _ h => h) (Or.inr ⟨by kernel_rfl, rfl⟩) (by assumption) ?_
  try simp only [Act.put, List.getElem_toArray, List.getElem_cons_zero, List.getElem_cons_succ, List.setIfInBounds_toArray, List.set_cons_zero, List.set_cons_succ]
  refine wpAnyH_take (i := 5) (v := undef) rfl (by kernel_rfl) (by kernel_rfl) (by kernel_rfl) (fun _ _ _ h => h) (Or.inr ⟨by kernel_rfl, rfl⟩) (by assumption) ?_
  try simp only [Act.put, List.getElem_toArray, List.getElem_cons_zero, List.getElem_cons_succ, List.setIfInBounds_toArray, List.set_cons_zero, List.set_cons_succ]
  refine wpAnyH_take (i := 6) (v := undef) rfl (by kernel_rfl) (by kernel_rfl) (by kernel_rfl) (fun _ _ _ h => h) (Or.inr ⟨by kernel_rfl, rfl⟩) (by assumption) ?_
  try simp only [Act.put, List.getElem_toArray, List.getElem_cons_zero, List.getElem_cons_succ, List.setIfInBounds_toArray, List.set_cons_zero, List.set_cons_succ]
  refine wpAnyH_take (i := 7) (v := undef) rfl (by kernel_rfl) (by kernel_rfl) (by kernel_rfl) (fun _ _ _ h => h) (Or.inr ⟨by kernel_rfl, rfl⟩) (by assumption) ?_
  try simp only [Act.put, List.getElem_toArray, List.getElem_cons_zero, List.getElem_cons_succ, List.setIfInBounds_toArray, List.set_cons_zero, List.set_cons_succ]
  refine wpAnyH_take (i := 8) (v := undef) rfl (by kernel_rfl) (by kernel_rfl) (by kernel_rfl) (fun _ _ _ h => h) (Or.inr ⟨by kernel_rfl, rfl⟩) (by assumption) ?_
  try simp only [Act.put, List.getElem_toArray, List.getElem_cons_zero, List.getElem_cons_succ, List.setIfInBounds_toArray, List.set_cons_zero, List.set_cons_succ]
  refine wpAnyH_take (i := 9) (v := (.bool false)) rfl (by kernel_rfl) (by kernel_rfl) (by kernel_rfl) (fun _ _ _ h => h) (Or.inl ⟨by kernel_rfl, fun w' hSw => (by (try dsimp only at hSw); go_simp)⟩) (by assumption) ?_
  try simp only [Act.put, List.getElem_toArray, List.getElem_cons_zero, List.getElem_cons_succ, List.setIfInBounds_toArray, List.set_cons_zero, List.set_cons_succ]
  refine wpAnyH_ready (rs := [10]) (by kernel_rfl) (by simp) ?_
  refine AllReadyH.cons rfl (fun K hK => ?_) AllReadyH.nil
  rw [if_pos (by kernel_rfl)]
  refine wp_store_row 40 _ _ rfl w.heap.size _ rfl rfl 40 _ hHeld (by kernel_rfl) rfl (by simp [Value.oneCell']) ?_
  rw [setRow_self _ _ _ _ _ hHeld]
  refine hK.out _ _ hHeld (fun hHeld => ?_)
  clear hK K
  try simp only [Act.put, List.getElem_toArray, List.getElem_cons_zero, List.getElem_cons_succ, List.setIfInBounds_toArray, List.set_cons_zero, List.set_cons_succ]
  refine wpAnyH_take (i := 11) (v := (.bool false)) rfl (by kernel_rfl) (by kernel_rfl) (by kernel_rfl) (fun _ _ _ h => h) (Or.inl ⟨by kernel_rfl, fun w' hSw => (by (try dsimp only at hSw); go_simp)⟩) (by assumption) ?_
  try simp only [Act.put, List.getElem_toArray, List.getElem_cons_zero, List.getElem_cons_succ, List.setIfInBounds_toArray, List.set_cons_zero, List.set_cons_succ]
  refine wpAnyH_done (by kernel_rfl) ?_ _
  have HY : Hid _ := HX3.out.bel.trans ((Dc.Below.drewN' 1).mono HX3.out.lsz)
  have HHe : Hid _ := hHeld
  clear hHeld hblk
  go_wp2_with fail
  exact bodyPost_ret (v := .tuple #[vlV 10 ⟨#[]⟩ false (.slice va 0 vc) 0 z0 sp0, .bool false]) (by refine (res2 (X := w.heap.size) Tryz.results37 ?_ HHe.out rfl).trans ?_ <;> rfl) rfl ⟨HY.out, by rw [HQQ.out]; exact ⟨_, _, _, _, _, _, _, rfl, btr_nil hvc⟩⟩
end Go.Proofs.YtgaegajcejpmdaaGreatDoor
