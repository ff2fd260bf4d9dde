/- The program: read, of decimal's kinds, at a text that is a number. -/
import Derived.Test.YtgaegajcejpmdaaGreatDoorHK10
import Derived.Laws.Tables
import Derived.Laws.CopyRow
import Derived.Deep.MidRow
import Derived.Deep.RegionHeld3
import Derived.Deep.DeepCutAuto
namespace Go.Proofs.YtgaegajcejpmdaaGreatDoor
open Go.RowKit
set_option linter.unusedVariables false
set_option linter.unusedSimpArgs false

set_option maxRecDepth 100000 in
set_option maxHeartbeats 6400000 in
theorem readN_ok {n : Dc.Nm} (k : Int) (s : ByteArray) (w : World) (hk0 : 10 ≤ k) (hk1 : k ≤ 23) (hs : s.size ≤ 100000) (hw : Lw w) (hq : Dc.parS (Dc.bl s) = .ok n) : Calls Tryz.prog 37 #[.int .i64 k, .string s] w (RnP k s w) := by
  have hbx := BX.new w 40 (vlL 10 ⟨#[]⟩ false (.slice none 0 0) 0 z0 sp0)
  have hpr := fun W => prim10 k hk0 hk1 W
  have hpa := fun W => Dc.parse_p s W (by unfold maxLen; omega)
  have HX : Hid _ := hbx
  clear hbx
  go_enter Tryz.func37, Tryz.ntmps37
  go_wp2_with (first | (go_at_call 15; refine (hpr _).mono ?_; rintro e w1 ⟨rfl, hw1⟩; have hw2 := hw1.symm; clear hw1; subst hw2))
  refine (hpa _).mono ?_
  rintro e w2 ⟨hb2, h2⟩
  have hbx2 := HX.out.below hb2
  rw [hq] at h2
  obtain ⟨rv, rfl, hbt⟩ := h2
  obtain ⟨va, vc, rfl, _⟩ := hbt.form
  obtain ⟨g0, g1, g2, g3, g4, g5, g6, g7, g8, g9, g10, g11, g12, g13, g14, g15⟩ := c16 hbx2.blk
  obtain ⟨f0, f1, f2, f3, f4, f5, f6, f7, f8, f9, f10, f11, f12, f13, f14, f15⟩ := f16 hbx2.blk
  have hbx3 := (((hbx2.set 2 (.bool n.1)).set 3 (.slice va n.2.1.length vc)).set 4 (.int .i64 n.2.2))
  have hbt3 := hbx3.btr hbt hbx2.blk (by intro u hu d e; subst e; simp at hu)
  have HBT : Hid (Dc.BtR _ _ _) := hbt3
  clear hbt3
  have HX3 : Hid _ := hbx3.of
  clear hbx3 hbx2 hbt hpa hpr HX hb2
  go_upto_region 13 with fail
  clear g0 g1 g2 g3 g4 g5 g6 g7 g8 g9 g10 g11 g12 g13 g14 g15 f0 f1 f2 f3 f4 f5 f6 f7 f8 f9 f10 f11 f12 f13 f14 f15
  generalize (((w2.setCell ⟨w.heap.size, 2, none⟩ (.bool n.1)).setCell ⟨w.heap.size, 3, none⟩ (.slice va n.2.1.length vc)).setCell ⟨w.heap.size, 4, none⟩ (.int .i64 n.2.2)) = W3 at *
  have hblk : W3.heap[w.heap.size]? = some (.cells [.int .i64 10, .string ⟨#[]⟩, .bool n.1, .slice va n.2.1.length vc, .int .i64 n.2.2, .int .i64 0, .int .i64 0, .int .i64 0, .int .i64 0, .int .i64 0, .int .i64 0, .bool false, .int .i64 0, .int .i64 0, .int .i64 0, .int .i64 0].toArray 40 (0, 0)) := HX3.out.blk
  have hlw := hw.below HX3.out.bel
  have hnr : Dc.NmR W3 (.slice va n.2.1.length vc) n := ⟨HBT.out, (Dc.par_ok hq).1, (Dc.par_ok hq).2.2.1⟩
  have qc := fun W (hW : Below W3.heap.size W3 W) => counted_p k s hk0 hk1 (hnr.below hW) hq (hlw.below hW)
  have HQ : Hid _ := qc
  have HQQ : Hid _ := hq
  clear qc hnr hlw hq hw hk0 hk1 hs
  generalize hcb : cntB k (Dc.bl s) n = cb at *
  have HCB : Hid _ := hcb
  clear hcb
  refine wp_region_held_drew (S := fun W => W.heap[w.heap.size]? = some (.cells [.int .i64 10, .string ⟨#[]⟩, .bool n.1, .slice va n.2.1.length vc, .int .i64 n.2.2, .int .i64 0, .int .i64 0, .int .i64 0, .int .i64 0, .int .i64 0, .int .i64 0, .bool false, .int .i64 0, .int .i64 0, .int .i64 0, .int .i64 0].toArray 40 (0, 0))) (by kernel_rfl) hblk (fun hHeld => ?_)
  refine wpAnyH_take (i := 0) (v := .agg #[.int .i64 10, .string ⟨#[]⟩, .bool n.1, .slice va n.2.1.length vc, .int .i64 n.2.2, .int .i64 0, .int .i64 0, .int .i64 0, .int .i64 0, .int .i64 0, .int .i64 0, .bool false, .int .i64 0, .int .i64 0, .int .i64 0, .int .i64 0]) rfl (by kernel_rfl) (by kernel_rfl) (by kernel_rfl) (fun _ _ _ h => h) (yieldsIf_load_mid (by kernel_rfl) 40 _ rfl w.heap.size 0 rfl [.int .i64 10, .string ⟨#[]⟩, .bool n.1, .slice va n.2.1.length vc, .int .i64 n.2.2, .int .i64 0, .int .i64 0, .int .i64 0, .int .i64 0, .int .i64 0, .int .i64 0, .bool false, .int .i64 0, .int .i64 0, .int .i64 0, .int .i64 0] _ (fun W hW => rng0 hW) Tryz.underlying40 rfl (by kernel_rfl)) (by assumption) ?_
  try simp only [Act.put, List.getElem_toArray, List.getElem_cons_zero, List.getElem_cons_succ, List.setIfInBounds_toArray, List.set_cons_zero, List.set_cons_succ]
  refine wpAnyH_take (i := 1) (v := (.int .i64 0)) rfl (by kernel_rfl) (by kernel_rfl) (by kernel_rfl) (fun _ _ _ h => h) (Or.inl ⟨by kernel_rfl, fun w' hSw => (by (try dsimp only at hSw); go_simp)⟩) (by assumption) ?_
  try simp only [Act.put, List.getElem_toArray, List.getElem_cons_zero, List.getElem_cons_succ, List.setIfInBounds_toArray, List.set_cons_zero, List.set_cons_succ]
  refine wpAnyH_take (i := 2) (v := (.bool true)) rfl (by kernel_rfl) (by kernel_rfl) (by kernel_rfl) (fun _ _ _ h => h) (Or.inl ⟨by kernel_rfl, fun w' hSw => (by (try dsimp only at hSw); go_simp)⟩) (by assumption) ?_
  try simp only [Act.put, List.getElem_toArray, List.getElem_cons_zero, List.getElem_cons_succ, List.setIfInBounds_toArray, List.set_cons_zero, List.set_cons_succ]
  refine wpAnyH_take (i := 3) (v := (.bool true)) rfl (by kernel_rfl) (by kernel_rfl) (by kernel_rfl) (fun _ _ _ h => h) (Or.inl ⟨by kernel_rfl, fun w' hSw => (by (try dsimp only at hSw); go_simp)⟩) (by assumption) ?_
  try simp only [Act.put, List.getElem_toArray, List.getElem_cons_zero, List.getElem_cons_succ, List.setIfInBounds_toArray, List.set_cons_zero, List.set_cons_succ]
  refine wpAnyH_take (i := 4) (v := (.int .i64 k)) rfl (by kernel_rfl) (by kernel_rfl) (by kernel_rfl) (fun _ _ _ h => h) (Or.inl ⟨by kernel_rfl, fun w' hSw => (by (try dsimp only at hSw); go_simp)⟩) (by assumption) ?_
  try simp only [Act.put, List.getElem_toArray, List.getElem_cons_zero, List.getElem_cons_succ, List.setIfInBounds_toArray, List.set_cons_zero, List.set_cons_succ]
  refine wpAnyH_take (i := 5) (v := (.string s)) rfl (by kernel_rfl) (by kernel_rfl) (by kernel_rfl) (fun _ _ _ h => h) (Or.inl ⟨by kernel_rfl, fun w' hSw => (by (try dsimp only at hSw); go_simp)⟩) (by assumption) ?_
  try simp only [Act.put, List.getElem_toArray, List.getElem_cons_zero, List.getElem_cons_succ, List.setIfInBounds_toArray, List.set_cons_zero, List.set_cons_succ]
  refine wpAnyH_take (i := 6) (v := (.pointer (some ⟨w.heap.size, 2, none⟩))) rfl (by kernel_rfl) (by kernel_rfl) (by kernel_rfl) (fun _ _ _ h => h) (Or.inl ⟨by kernel_rfl, fun w' hSw => (by (try dsimp only at hSw); go_simp)⟩) (by assumption) ?_
  try simp only [Act.put, List.getElem_toArray, List.getElem_cons_zero, List.getElem_cons_succ, List.setIfInBounds_toArray, List.set_cons_zero, List.set_cons_succ]
  refine wpAnyH_take (i := 7) (v := .agg #[.bool n.1, .slice va n.2.1.length vc, .int .i64 n.2.2]) rfl (by kernel_rfl) (by kernel_rfl) (by kernel_rfl) (fun _ _ _ h => h) (yieldsIf_load_mid (by kernel_rfl) 34 _ rfl w.heap.size 2 rfl [.bool n.1, .slice va n.2.1.length vc, .int .i64 n.2.2] _ (fun W hW => rng2 hW) Tryz.underlying34 rfl (by kernel_rfl)) (by assumption) ?_
  try simp only [Act.put, List.getElem_toArray, List.getElem_cons_zero, List.getElem_cons_succ, List.setIfInBounds_toArray, List.set_cons_zero, List.set_cons_succ]
  refine wpAnyH_ready (rs := [8]) (by kernel_rfl) (by simp) ?_
  refine AllReadyH.cons rfl (fun K hK => ?_) AllReadyH.nil
  go_simp
  refine Calls.mono (HQ.out _ (Dc.Below.drewN' 1)) ?_
  rintro e w9 ⟨rfl, hb9⟩
  have hbb : Below W3.heap.size W3 w9 := (Dc.Below.drewN' 1).trans hb9
  have hblk9 := (hbb.block _ (Dc.lt_of hblk)).trans hblk
  have HB9 : Hid _ := hbb
  clear hbb hb9 hHeld
  go_wp2_with fail
  refine hK.out _ _ hblk9 (fun hHeld => ?_)
  clear hK K
  try simp only [Act.put, List.getElem_toArray, List.getElem_cons_zero, List.getElem_cons_succ, List.setIfInBounds_toArray, List.set_cons_zero, List.set_cons_succ]
  refine wpAnyH_take (i := 9) (v := (.bool cb)) rfl (by kernel_rfl) (by kernel_rfl) (by kernel_rfl) (fun _ _ _ h => h) (Or.inl ⟨by kernel_rfl, fun w' hSw => (by (try dsimp only at hSw); go_simp)⟩) (by assumption) ?_
  try simp only [Act.put, List.getElem_toArray, List.getElem_cons_zero, List.getElem_cons_succ, List.setIfInBounds_toArray, List.set_cons_zero, List.set_cons_succ]
  refine wpAnyH_ready (rs := [10]) (by kernel_rfl) (by simp) ?_
  refine AllReadyH.cons rfl (fun K hK => ?_) AllReadyH.nil
  rw [if_pos (by kernel_rfl)]
  refine wp_store_row 40 _ _ rfl w.heap.size _ rfl rfl 40 _ hHeld (by kernel_rfl) rfl (by simp [Value.oneCell']) ?_
  rw [setRow_self _ _ _ _ _ hHeld]
  refine hK.out _ _ hHeld (fun hHeld => ?_)
  clear hK K
  try simp only [Act.put, List.getElem_toArray, List.getElem_cons_zero, List.getElem_cons_succ, List.setIfInBounds_toArray, List.set_cons_zero, List.set_cons_succ]
  refine wpAnyH_take (i := 11) (v := (.bool cb)) rfl (by kernel_rfl) (by kernel_rfl) (by kernel_rfl) (fun _ _ _ h => h) (Or.inl ⟨by kernel_rfl, fun w' hSw => (by (try dsimp only at hSw); go_simp)⟩) (by assumption) ?_
  try simp only [Act.put, List.getElem_toArray, List.getElem_cons_zero, List.getElem_cons_succ, List.setIfInBounds_toArray, List.set_cons_zero, List.set_cons_succ]
  refine wpAnyH_done (by kernel_rfl) ?_ _
  have HY : Hid _ := And.intro (HX3.out.bel.trans (HB9.out.mono HX3.out.lsz)) (Dc.BtR.below (show Dc.BtR W3 (.slice va n.2.1.length vc) n.2.1 from HBT.out) HB9.out)
  have HHe : Hid _ := hHeld
  clear hHeld hblk9 hblk
  go_wp2_with fail
  exact bodyPost_ret (v := .tuple #[vlV 10 ⟨#[]⟩ n.1 (.slice va n.2.1.length vc) n.2.2 z0 sp0, .bool cb]) (by refine (res2 (X := w.heap.size) Tryz.results37 ?_ HHe.out rfl).trans ?_ <;> rfl) rfl ⟨HY.out.1, by rw [HQQ.out]; exact ⟨_, by rw [HCB.out], HY.out.2⟩⟩
end Go.Proofs.YtgaegajcejpmdaaGreatDoor
