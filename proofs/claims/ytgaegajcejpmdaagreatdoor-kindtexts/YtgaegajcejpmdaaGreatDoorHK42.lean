/- The second telling: whether a number is within a kind's bounds. -/
import Derived.Test.YtgaegajcejpmdaaGreatDoorHJ29
import Derived.Test.YtgaegajcejpmdaaGreatDoorHJ14
import Derived.Laws.Tables
import Derived.Deep.MidRow
import Derived.Deep.RegionHeld3
namespace Go.Proofs.YtgaegajcejpmdaaGreatDoor
open Go.RowKit
set_option linter.unusedVariables false
set_option linter.unusedSimpArgs false

theorem rng3 {W : World} {X : Nat} {a b c : Value} {t : TypeId} (h : W.heap[X]? = some (.cells #[a, b, c] t (0, 0))) : W.rangeAt X 0 [a, b, c] := rng0 (cs := [a, b, c]) h
def loT : Array Value := #[.string ⟨#[]⟩, .string ⟨#[]⟩, .string ⟨#[]⟩, .string ⟨#[]⟩, .string ⟨#[]⟩, .string ⟨#[]⟩, .string ⟨#[]⟩, .string ⟨#[]⟩, .string ⟨#[]⟩, .string ⟨#[]⟩, .string ⟨#[]⟩, .string ⟨#[]⟩, .string ⟨#[]⟩, .string ⟨#[]⟩, .string ⟨#[48]⟩, .string ⟨#[49]⟩, .string ⟨#[45, 57, 50, 50, 51, 51, 55, 50, 48, 51, 54, 56, 53, 52, 55, 55, 53, 56, 48, 56]⟩, .string ⟨#[45, 50, 49, 52, 55, 52, 56, 51, 54, 52, 56]⟩, .string ⟨#[45, 51, 50, 55, 54, 56]⟩, .string ⟨#[45, 49, 50, 56]⟩, .string ⟨#[48]⟩, .string ⟨#[48]⟩, .string ⟨#[48]⟩, .string ⟨#[48]⟩]
def hiT : Array Value := #[.string ⟨#[]⟩, .string ⟨#[]⟩, .string ⟨#[]⟩, .string ⟨#[]⟩, .string ⟨#[]⟩, .string ⟨#[]⟩, .string ⟨#[]⟩, .string ⟨#[]⟩, .string ⟨#[]⟩, .string ⟨#[]⟩, .string ⟨#[]⟩, .string ⟨#[]⟩, .string ⟨#[48]⟩, .string ⟨#[45, 49]⟩, .string ⟨#[]⟩, .string ⟨#[]⟩, .string ⟨#[57, 50, 50, 51, 51, 55, 50, 48, 51, 54, 56, 53, 52, 55, 55, 53, 56, 48, 55]⟩, .string ⟨#[50, 49, 52, 55, 52, 56, 51, 54, 52, 55]⟩, .string ⟨#[51, 50, 55, 54, 55]⟩, .string ⟨#[49, 50, 55]⟩, .string ⟨#[49, 56, 52, 52, 54, 55, 52, 52, 48, 55, 51, 55, 48, 57, 53, 53, 49, 54, 49, 53]⟩, .string ⟨#[52, 50, 57, 52, 57, 54, 55, 50, 57, 53]⟩, .string ⟨#[54, 53, 53, 51, 53]⟩, .string ⟨#[50, 53, 53]⟩]
theorem bel1' {w W : World} (h : Below w.heap.size w W) (o : Obj) : Below w.heap.size w (W.alloc o) := h.alloc h.size o
theorem bel3 (w : World) (a b c : Obj) : Below w.heap.size w (((w.alloc a).alloc b).alloc c) := bel1' (bel1' (bel1' (Below.refl _ _) _) _) _
theorem blocks3 (w : World) (a b c : Obj) : (((w.alloc a).alloc b).alloc c).heap[w.heap.size]? = some a ∧ (((w.alloc a).alloc b).alloc c).heap[w.heap.size + 1]? = some b ∧ (((w.alloc a).alloc b).alloc c).heap[w.heap.size + 1 + 1]? = some c := by
  obtain ⟨h1, h2, h3⟩ := box_two w a b
  have hs : ((w.alloc a).alloc b).heap.size = w.heap.size + 1 + 1 := by simp
  have h4 := M.nw_heap ((w.alloc a).alloc b) c
  have hb : Below ((w.alloc a).alloc b).heap.size ((w.alloc a).alloc b) (((w.alloc a).alloc b).alloc c) := (Below.refl _ _).alloc (Nat.le_refl _) _
  rw [hs] at h4
  exact ⟨(hb.block _ (by rw [hs]; omega)).trans h1, (hb.block _ (by rw [hs]; omega)).trans h2, h4⟩
theorem cmp_whole {n b : Dc.Nm} (h : Dc.CN n) (h0 : n.2.2 = 0) (hb : Dc.CN b) (hb0 : b.2.2 = 0) : (Dc.cmpS n b < 0 ↔ Dc.nv n 0 < Dc.nv b 0) ∧ (Dc.cmpS n b ≤ 0 ↔ Dc.nv n 0 ≤ Dc.nv b 0) := by
  have := Dc.cmp_at (S := 0) h hb (by omega) (by omega)
  omega
theorem pb0 : Dc.parS (Dc.bl ⟨#[48]⟩) = .ok (false, [0], 0) := by rfl
theorem pb0c : Dc.CN (false, [0], 0) := (Dc.par_ok pb0).1
theorem pb0v : Dc.nv (false, [0], 0) 0 = 0 := by decide
theorem pb1 : Dc.parS (Dc.bl ⟨#[45, 49]⟩) = .ok (true, [1], 0) := by rfl
theorem pb1c : Dc.CN (true, [1], 0) := (Dc.par_ok pb1).1
theorem pb1v : Dc.nv (true, [1], 0) 0 = -1 := by decide
theorem pb2 : Dc.parS (Dc.bl ⟨#[49]⟩) = .ok (false, [1], 0) := by rfl
theorem pb2c : Dc.CN (false, [1], 0) := (Dc.par_ok pb2).1
theorem pb2v : Dc.nv (false, [1], 0) 0 = 1 := by decide
theorem pb3 : Dc.parS (Dc.bl ⟨#[45, 57, 50, 50, 51, 51, 55, 50, 48, 51, 54, 56, 53, 52, 55, 55, 53, 56, 48, 56]⟩) = .ok (true, [9, 2, 2, 3, 3, 7, 2, 0, 3, 6, 8, 5, 4, 7, 7, 5, 8, 0, 8], 0) := by rfl
theorem pb3c : Dc.CN (true, [9, 2, 2, 3, 3, 7, 2, 0, 3, 6, 8, 5, 4, 7, 7, 5, 8, 0, 8], 0) := (Dc.par_ok pb3).1
theorem pb3v : Dc.nv (true, [9, 2, 2, 3, 3, 7, 2, 0, 3, 6, 8, 5, 4, 7, 7, 5, 8, 0, 8], 0) 0 = -9223372036854775808 := by decide
theorem pb4 : Dc.parS (Dc.bl ⟨#[57, 50, 50, 51, 51, 55, 50, 48, 51, 54, 56, 53, 52, 55, 55, 53, 56, 48, 55]⟩) = .ok (false, [9, 2, 2, 3, 3, 7, 2, 0, 3, 6, 8, 5, 4, 7, 7, 5, 8, 0, 7], 0) := by rfl
theorem pb4c : Dc.CN (false, [9, 2, 2, 3, 3, 7, 2, 0, 3, 6, 8, 5, 4, 7, 7, 5, 8, 0, 7], 0) := (Dc.par_ok pb4).1
theorem pb4v : Dc.nv (false, [9, 2, 2, 3, 3, 7, 2, 0, 3, 6, 8, 5, 4, 7, 7, 5, 8, 0, 7], 0) 0 = 9223372036854775807 := by decide
theorem pb5 : Dc.parS (Dc.bl ⟨#[45, 50, 49, 52, 55, 52, 56, 51, 54, 52, 56]⟩) = .ok (true, [2, 1, 4, 7, 4, 8, 3, 6, 4, 8], 0) := by rfl
theorem pb5c : Dc.CN (true, [2, 1, 4, 7, 4, 8, 3, 6, 4, 8], 0) := (Dc.par_ok pb5).1
theorem pb5v : Dc.nv (true, [2, 1, 4, 7, 4, 8, 3, 6, 4, 8], 0) 0 = -2147483648 := by decide
theorem pb6 : Dc.parS (Dc.bl ⟨#[50, 49, 52, 55, 52, 56, 51, 54, 52, 55]⟩) = .ok (false, [2, 1, 4, 7, 4, 8, 3, 6, 4, 7], 0) := by rfl
theorem pb6c : Dc.CN (false, [2, 1, 4, 7, 4, 8, 3, 6, 4, 7], 0) := (Dc.par_ok pb6).1
theorem pb6v : Dc.nv (false, [2, 1, 4, 7, 4, 8, 3, 6, 4, 7], 0) 0 = 2147483647 := by decide
theorem pb7 : Dc.parS (Dc.bl ⟨#[45, 51, 50, 55, 54, 56]⟩) = .ok (true, [3, 2, 7, 6, 8], 0) := by rfl
theorem pb7c : Dc.CN (true, [3, 2, 7, 6, 8], 0) := (Dc.par_ok pb7).1
theorem pb7v : Dc.nv (true, [3, 2, 7, 6, 8], 0) 0 = -32768 := by decide
theorem pb8 : Dc.parS (Dc.bl ⟨#[51, 50, 55, 54, 55]⟩) = .ok (false, [3, 2, 7, 6, 7], 0) := by rfl
theorem pb8c : Dc.CN (false, [3, 2, 7, 6, 7], 0) := (Dc.par_ok pb8).1
theorem pb8v : Dc.nv (false, [3, 2, 7, 6, 7], 0) 0 = 32767 := by decide
theorem pb9 : Dc.parS (Dc.bl ⟨#[45, 49, 50, 56]⟩) = .ok (true, [1, 2, 8], 0) := by rfl
theorem pb9c : Dc.CN (true, [1, 2, 8], 0) := (Dc.par_ok pb9).1
theorem pb9v : Dc.nv (true, [1, 2, 8], 0) 0 = -128 := by decide
theorem pb10 : Dc.parS (Dc.bl ⟨#[49, 50, 55]⟩) = .ok (false, [1, 2, 7], 0) := by rfl
theorem pb10c : Dc.CN (false, [1, 2, 7], 0) := (Dc.par_ok pb10).1
theorem pb10v : Dc.nv (false, [1, 2, 7], 0) 0 = 127 := by decide
theorem pb11 : Dc.parS (Dc.bl ⟨#[49, 56, 52, 52, 54, 55, 52, 52, 48, 55, 51, 55, 48, 57, 53, 53, 49, 54, 49, 53]⟩) = .ok (false, [1, 8, 4, 4, 6, 7, 4, 4, 0, 7, 3, 7, 0, 9, 5, 5, 1, 6, 1, 5], 0) := by rfl
theorem pb11c : Dc.CN (false, [1, 8, 4, 4, 6, 7, 4, 4, 0, 7, 3, 7, 0, 9, 5, 5, 1, 6, 1, 5], 0) := (Dc.par_ok pb11).1
theorem pb11v : Dc.nv (false, [1, 8, 4, 4, 6, 7, 4, 4, 0, 7, 3, 7, 0, 9, 5, 5, 1, 6, 1, 5], 0) 0 = 18446744073709551615 := by decide
theorem pb12 : Dc.parS (Dc.bl ⟨#[52, 50, 57, 52, 57, 54, 55, 50, 57, 53]⟩) = .ok (false, [4, 2, 9, 4, 9, 6, 7, 2, 9, 5], 0) := by rfl
theorem pb12c : Dc.CN (false, [4, 2, 9, 4, 9, 6, 7, 2, 9, 5], 0) := (Dc.par_ok pb12).1
theorem pb12v : Dc.nv (false, [4, 2, 9, 4, 9, 6, 7, 2, 9, 5], 0) 0 = 4294967295 := by decide
theorem pb13 : Dc.parS (Dc.bl ⟨#[54, 53, 53, 51, 53]⟩) = .ok (false, [6, 5, 5, 3, 5], 0) := by rfl
theorem pb13c : Dc.CN (false, [6, 5, 5, 3, 5], 0) := (Dc.par_ok pb13).1
theorem pb13v : Dc.nv (false, [6, 5, 5, 3, 5], 0) 0 = 65535 := by decide
theorem pb14 : Dc.parS (Dc.bl ⟨#[50, 53, 53]⟩) = .ok (false, [2, 5, 5], 0) := by rfl
theorem pb14c : Dc.CN (false, [2, 5, 5], 0) := (Dc.par_ok pb14).1
theorem pb14v : Dc.nv (false, [2, 5, 5], 0) 0 = 255 := by decide
set_option maxRecDepth 100000 in
set_option maxHeartbeats 6400000 in
theorem within_11 {w : World} {v : Value} {n : Dc.Nm} (hn : Dc.NmR w v n) (h0 : n.2.2 = 0) : Calls Tryz.prog 43 #[.int .i64 11, Dc.nmV n.1 v n.2.2] w fun e w' => e = .returned (.bool (wiB 11 (Dc.nv n 0))) ∧ Below w.heap.size w w' := by
  have HW : Hid (True ∧ True) := ⟨trivial, trivial⟩
  obtain ⟨va, vc, rfl, _⟩ := hn.bt.form
  have hx := M.nw_heap w (.cells #[.bool n.1, .slice va n.2.1.length vc, .int .i64 n.2.2] 43)
  have hb1 : Below w.heap.size w (((w.alloc (.cells #[.bool n.1, .slice va n.2.1.length vc, .int .i64 n.2.2] 43)).alloc (.cells loT 9)).alloc (.cells hiT 9)) := bel3 w _ _ _
  have hS := blocks3 w (.cells #[.bool n.1, .slice va n.2.1.length vc, .int .i64 n.2.2] 43) (.cells loT 9) (.cells hiT 9)
  obtain ⟨U, hU⟩ : ∃ U, ((w.alloc (.cells #[.bool n.1, .slice va n.2.1.length vc, .int .i64 n.2.2] 43)).alloc (.cells loT 9)).alloc (.cells hiT 9) = U := ⟨_, rfl⟩
  rw [hU] at hb1 hS
  have HN : Hid _ := fun W (hW : Below U.heap.size U W) => hn.below (hb1.trans (hW.mono hb1.size))
  have HK : Hid (∀ W, Below U.heap.size U W → _ ∧ _ ∧ _) := fun W hW => And.intro ((hW.block _ (Dc.lt_of hS.1)).trans hS.1) (And.intro ((hW.block _ (Dc.lt_of hS.2.1)).trans hS.2.1) ((hW.block _ (Dc.lt_of hS.2.2)).trans hS.2.2))
  have HU : Hid _ := hb1
  clear hx hb1 hS hn h0
  go_enter Tryz.func43, Tryz.ntmps43
  go_upto_region 3 with fail
  try rw [show ((w.alloc (.cells #[.bool n.1, .slice va n.2.1.length vc, .int .i64 n.2.2] 43)).alloc (.cells #[.string ⟨#[]⟩, .string ⟨#[]⟩, .string ⟨#[]⟩, .string ⟨#[]⟩, .string ⟨#[]⟩, .string ⟨#[]⟩, .string ⟨#[]⟩, .string ⟨#[]⟩, .string ⟨#[]⟩, .string ⟨#[]⟩, .string ⟨#[]⟩, .string ⟨#[]⟩, .string ⟨#[]⟩, .string ⟨#[]⟩, .string ⟨#[48]⟩, .string ⟨#[49]⟩, .string ⟨#[45, 57, 50, 50, 51, 51, 55, 50, 48, 51, 54, 56, 53, 52, 55, 55, 53, 56, 48, 56]⟩, .string ⟨#[45, 50, 49, 52, 55, 52, 56, 51, 54, 52, 56]⟩, .string ⟨#[45, 51, 50, 55, 54, 56]⟩, .string ⟨#[45, 49, 50, 56]⟩, .string ⟨#[48]⟩, .string ⟨#[48]⟩, .string ⟨#[48]⟩, .string ⟨#[48]⟩] 9)).alloc (.cells #[.string ⟨#[]⟩, .string ⟨#[]⟩, .string ⟨#[]⟩, .string ⟨#[]⟩, .string ⟨#[]⟩, .string ⟨#[]⟩, .string ⟨#[]⟩, .string ⟨#[]⟩, .string ⟨#[]⟩, .string ⟨#[]⟩, .string ⟨#[]⟩, .string ⟨#[]⟩, .string ⟨#[48]⟩, .string ⟨#[45, 49]⟩, .string ⟨#[]⟩, .string ⟨#[]⟩, .string ⟨#[57, 50, 50, 51, 51, 55, 50, 48, 51, 54, 56, 53, 52, 55, 55, 53, 56, 48, 55]⟩, .string ⟨#[50, 49, 52, 55, 52, 56, 51, 54, 52, 55]⟩, .string ⟨#[51, 50, 55, 54, 55]⟩, .string ⟨#[49, 50, 55]⟩, .string ⟨#[49, 56, 52, 52, 54, 55, 52, 52, 48, 55, 51, 55, 48, 57, 53, 53, 49, 54, 49, 53]⟩, .string ⟨#[52, 50, 57, 52, 57, 54, 55, 50, 57, 53]⟩, .string ⟨#[54, 53, 53, 51, 53]⟩, .string ⟨#[50, 53, 53]⟩] 9) = U from hU]
  clear hU
  have HB : Hid (Below U.heap.size U U.drew) := Dc.Below.drewN' 1
  refine wp_region_held_drew (S := fun W => W.heap[w.heap.size]? = some (.cells #[.bool n.1, .slice va n.2.1.length vc, .int .i64 n.2.2] 43 (0, 0)) ∧ W.heap[w.heap.size + 1]? = some (.cells loT 9 (0, 0)) ∧ W.heap[w.heap.size + 1 + 1]? = some (.cells hiT 9 (0, 0))) (by kernel_rfl) (HK.out _ HB.out) (fun hHeld => ?_)
  refine wpAnyH_take (i := 0) (v := (.slice (some ⟨w.heap.size + 1, 0, none⟩) 24 24)) rfl (by kernel_rfl) (by kernel_rfl) (by kernel_rfl) (fun _ _ _ h => h) (Or.inl ⟨by kernel_rfl, fun w' hSw => (by go_simp)⟩) (by assumption) ?_
  try simp only [Act.put, List.getElem_toArray, List.getElem_cons_zero, List.getElem_cons_succ, List.setIfInBounds_toArray, List.set_cons_zero, List.set_cons_succ]
  refine wpAnyH_take (i := 1) (v := (.int .i64 11)) rfl (by kernel_rfl) (by kernel_rfl) (by kernel_rfl) (fun _ _ _ h => h) (Or.inl ⟨by kernel_rfl, fun w' hSw => (by go_simp)⟩) (by assumption) ?_
  try simp only [Act.put, List.getElem_toArray, List.getElem_cons_zero, List.getElem_cons_succ, List.setIfInBounds_toArray, List.set_cons_zero, List.set_cons_succ]
  refine wpAnyH_take (i := 2) (v := (.pointer (some ⟨w.heap.size + 1, 11, none⟩))) rfl (by kernel_rfl) (by kernel_rfl) (by kernel_rfl) (fun _ _ _ h => h) (Or.inl ⟨by kernel_rfl, fun w' hSw => (by go_simp)⟩) (by assumption) ?_
  try simp only [Act.put, List.getElem_toArray, List.getElem_cons_zero, List.getElem_cons_succ, List.setIfInBounds_toArray, List.set_cons_zero, List.set_cons_succ]
  refine wpAnyH_take (i := 3) (v := (.string ⟨#[]⟩)) rfl (by kernel_rfl) (by kernel_rfl) (by kernel_rfl) (fun _ _ _ h => h) (Or.inl ⟨by kernel_rfl, fun w' hSw => (by have hc : w'.cell? ⟨w.heap.size + 1, 11, none⟩ = some (.string ⟨#[]⟩) := row_cell hSw.2.1; go_simp)⟩) (by assumption) ?_
  try simp only [Act.put, List.getElem_toArray, List.getElem_cons_zero, List.getElem_cons_succ, List.setIfInBounds_toArray, List.set_cons_zero, List.set_cons_succ]
  refine wpAnyH_take (i := 4) (v := (.bool false)) rfl (by kernel_rfl) (by kernel_rfl) (by kernel_rfl) (fun _ _ _ h => h) (Or.inl ⟨by kernel_rfl, fun w' hSw => (by go_simp)⟩) (by assumption) ?_
  try simp only [Act.put, List.getElem_toArray, List.getElem_cons_zero, List.getElem_cons_succ, List.setIfInBounds_toArray, List.set_cons_zero, List.set_cons_succ]
  refine wpAnyH_take (i := 5) (v := (.bool false)) rfl (by kernel_rfl) (by kernel_rfl) (by kernel_rfl) (fun _ _ _ h => h) (Or.inl ⟨by kernel_rfl, fun w' hSw => (by go_simp)⟩) (by assumption) ?_
  try simp only [Act.put, List.getElem_toArray, List.getElem_cons_zero, List.getElem_cons_succ, List.setIfInBounds_toArray, List.set_cons_zero, List.set_cons_succ]
  refine wpAnyH_take (i := 6) (v := (undef)) rfl (by kernel_rfl) (by kernel_rfl) (by kernel_rfl) (fun _ _ _ h => h) (Or.inr ⟨by kernel_rfl, rfl⟩) (by assumption) ?_
  try simp only [Act.put, List.getElem_toArray, List.getElem_cons_zero, List.getElem_cons_succ, List.setIfInBounds_toArray, List.set_cons_zero, List.set_cons_succ]
  refine wpAnyH_take (i := 7) (v := (undef)) rfl (by kernel_rfl) (by kernel_rfl) (by kernel_rfl) (fun _ _ _ h => h) (Or.inr ⟨by kernel_rfl, rfl⟩) (by assumption) ?_
  try simp only [Act.put, List.getElem_toArray, List.getElem_cons_zero, List.getElem_cons_succ, List.setIfInBounds_toArray, List.set_cons_zero, List.set_cons_succ]
  refine wpAnyH_take (i := 8) (v := (undef)) rfl (by kernel_rfl) (by kernel_rfl) (by kernel_rfl) (fun _ _ _ h => h) (Or.inr ⟨by kernel_rfl, rfl⟩) (by assumption) ?_
  try simp only [Act.put, List.getElem_toArray, List.getElem_cons_zero, List.getElem_cons_succ, List.setIfInBounds_toArray, List.set_cons_zero, List.set_cons_succ]
  refine wpAnyH_take (i := 9) (v := (undef)) rfl (by kernel_rfl) (by kernel_rfl) (by kernel_rfl) (fun _ _ _ h => h) (Or.inr ⟨by kernel_rfl, rfl⟩) (by assumption) ?_
  try simp only [Act.put, List.getElem_toArray, List.getElem_cons_zero, List.getElem_cons_succ, List.setIfInBounds_toArray, List.set_cons_zero, List.set_cons_succ]
  refine wpAnyH_take (i := 10) (v := (undef)) rfl (by kernel_rfl) (by kernel_rfl) (by kernel_rfl) (fun _ _ _ h => h) (Or.inr ⟨by kernel_rfl, rfl⟩) (by assumption) ?_
  try simp only [Act.put, List.getElem_toArray, List.getElem_cons_zero, List.getElem_cons_succ, List.setIfInBounds_toArray, List.set_cons_zero, List.set_cons_succ]
  refine wpAnyH_take (i := 11) (v := (undef)) rfl (by kernel_rfl) (by kernel_rfl) (by kernel_rfl) (fun _ _ _ h => h) (Or.inr ⟨by kernel_rfl, rfl⟩) (by assumption) ?_
  try simp only [Act.put, List.getElem_toArray, List.getElem_cons_zero, List.getElem_cons_succ, List.setIfInBounds_toArray, List.set_cons_zero, List.set_cons_succ]
  refine wpAnyH_take (i := 12) (v := (undef)) rfl (by kernel_rfl) (by kernel_rfl) (by kernel_rfl) (fun _ _ _ h => h) (Or.inr ⟨by kernel_rfl, rfl⟩) (by assumption) ?_
  try simp only [Act.put, List.getElem_toArray, List.getElem_cons_zero, List.getElem_cons_succ, List.setIfInBounds_toArray, List.set_cons_zero, List.set_cons_succ]
  refine wpAnyH_take (i := 13) (v := (undef)) rfl (by kernel_rfl) (by kernel_rfl) (by kernel_rfl) (fun _ _ _ h => h) (Or.inr ⟨by kernel_rfl, rfl⟩) (by assumption) ?_
  try simp only [Act.put, List.getElem_toArray, List.getElem_cons_zero, List.getElem_cons_succ, List.setIfInBounds_toArray, List.set_cons_zero, List.set_cons_succ]
  refine wpAnyH_take (i := 14) (v := (.bool false)) rfl (by kernel_rfl) (by kernel_rfl) (by kernel_rfl) (fun _ _ _ h => h) (Or.inl ⟨by kernel_rfl, fun w' hSw => (by go_simp)⟩) (by assumption) ?_
  try simp only [Act.put, List.getElem_toArray, List.getElem_cons_zero, List.getElem_cons_succ, List.setIfInBounds_toArray, List.set_cons_zero, List.set_cons_succ]
  refine wpAnyH_done (by kernel_rfl) ?_ _
  clear hHeld
  go_upto_region 5 with fail
  have HE : Hid (wiB 11 (Dc.nv n 0) = true) := by
    show _ = _
    have := HW.out.1
    unfold wiB
    simp
  have HB1 : Hid _ := HB.out
  clear HB
  have HB : Hid (Below U.heap.size U U.drew.drew) := HB1.out.trans ((Dc.Below.drewN' 1).mono HB1.out.size)
  refine wp_region_held_drew (S := fun W => W.heap[w.heap.size]? = some (.cells #[.bool n.1, .slice va n.2.1.length vc, .int .i64 n.2.2] 43 (0, 0)) ∧ W.heap[w.heap.size + 1]? = some (.cells loT 9 (0, 0)) ∧ W.heap[w.heap.size + 1 + 1]? = some (.cells hiT 9 (0, 0))) (by kernel_rfl) (HK.out _ HB.out) (fun hHeld => ?_)
  refine wpAnyH_take (i := 0) (v := (.slice (some ⟨w.heap.size + 1 + 1, 0, none⟩) 24 24)) rfl (by kernel_rfl) (by kernel_rfl) (by kernel_rfl) (fun _ _ _ h => h) (Or.inl ⟨by kernel_rfl, fun w' hSw => (by go_simp)⟩) (by assumption) ?_
  try simp only [Act.put, List.getElem_toArray, List.getElem_cons_zero, List.getElem_cons_succ, List.setIfInBounds_toArray, List.set_cons_zero, List.set_cons_succ]
  refine wpAnyH_take (i := 1) (v := (.int .i64 11)) rfl (by kernel_rfl) (by kernel_rfl) (by kernel_rfl) (fun _ _ _ h => h) (Or.inl ⟨by kernel_rfl, fun w' hSw => (by go_simp)⟩) (by assumption) ?_
  try simp only [Act.put, List.getElem_toArray, List.getElem_cons_zero, List.getElem_cons_succ, List.setIfInBounds_toArray, List.set_cons_zero, List.set_cons_succ]
  refine wpAnyH_take (i := 2) (v := (.pointer (some ⟨w.heap.size + 1 + 1, 11, none⟩))) rfl (by kernel_rfl) (by kernel_rfl) (by kernel_rfl) (fun _ _ _ h => h) (Or.inl ⟨by kernel_rfl, fun w' hSw => (by go_simp)⟩) (by assumption) ?_
  try simp only [Act.put, List.getElem_toArray, List.getElem_cons_zero, List.getElem_cons_succ, List.setIfInBounds_toArray, List.set_cons_zero, List.set_cons_succ]
  refine wpAnyH_take (i := 3) (v := (.string ⟨#[]⟩)) rfl (by kernel_rfl) (by kernel_rfl) (by kernel_rfl) (fun _ _ _ h => h) (Or.inl ⟨by kernel_rfl, fun w' hSw => (by have hc : w'.cell? ⟨w.heap.size + 1 + 1, 11, none⟩ = some (.string ⟨#[]⟩) := row_cell hSw.2.2; go_simp)⟩) (by assumption) ?_
  try simp only [Act.put, List.getElem_toArray, List.getElem_cons_zero, List.getElem_cons_succ, List.setIfInBounds_toArray, List.set_cons_zero, List.set_cons_succ]
  refine wpAnyH_take (i := 4) (v := (.bool true)) rfl (by kernel_rfl) (by kernel_rfl) (by kernel_rfl) (fun _ _ _ h => h) (Or.inl ⟨by kernel_rfl, fun w' hSw => (by go_simp)⟩) (by assumption) ?_
  try simp only [Act.put, List.getElem_toArray, List.getElem_cons_zero, List.getElem_cons_succ, List.setIfInBounds_toArray, List.set_cons_zero, List.set_cons_succ]
  refine wpAnyH_take (i := 5) (v := (.bool true)) rfl (by kernel_rfl) (by kernel_rfl) (by kernel_rfl) (fun _ _ _ h => h) (Or.inl ⟨by kernel_rfl, fun w' hSw => (by go_simp)⟩) (by assumption) ?_
  try simp only [Act.put, List.getElem_toArray, List.getElem_cons_zero, List.getElem_cons_succ, List.setIfInBounds_toArray, List.set_cons_zero, List.set_cons_succ]
  refine wpAnyH_take (i := 6) (v := (undef)) rfl (by kernel_rfl) (by kernel_rfl) (by kernel_rfl) (fun _ _ _ h => h) (Or.inr ⟨by kernel_rfl, rfl⟩) (by assumption) ?_
  try simp only [Act.put, List.getElem_toArray, List.getElem_cons_zero, List.getElem_cons_succ, List.setIfInBounds_toArray, List.set_cons_zero, List.set_cons_succ]
  refine wpAnyH_take (i := 7) (v := (undef)) rfl (by kernel_rfl) (by kernel_rfl) (by kernel_rfl) (fun _ _ _ h => h) (Or.inr ⟨by kernel_rfl, rfl⟩) (by assumption) ?_
  try simp only [Act.put, List.getElem_toArray, List.getElem_cons_zero, List.getElem_cons_succ, List.setIfInBounds_toArray, List.set_cons_zero, List.set_cons_succ]
  refine wpAnyH_take (i := 8) (v := (undef)) rfl (by kernel_rfl) (by kernel_rfl) (by kernel_rfl) (fun _ _ _ h => h) (Or.inr ⟨by kernel_rfl, rfl⟩) (by assumption) ?_
  try simp only [Act.put, List.getElem_toArray, List.getElem_cons_zero, List.getElem_cons_succ, List.setIfInBounds_toArray, List.set_cons_zero, List.set_cons_succ]
  refine wpAnyH_take (i := 9) (v := (undef)) rfl (by kernel_rfl) (by kernel_rfl) (by kernel_rfl) (fun _ _ _ h => h) (Or.inr ⟨by kernel_rfl, rfl⟩) (by assumption) ?_
  try simp only [Act.put, List.getElem_toArray, List.getElem_cons_zero, List.getElem_cons_succ, List.setIfInBounds_toArray, List.set_cons_zero, List.set_cons_succ]
  refine wpAnyH_take (i := 10) (v := (undef)) rfl (by kernel_rfl) (by kernel_rfl) (by kernel_rfl) (fun _ _ _ h => h) (Or.inr ⟨by kernel_rfl, rfl⟩) (by assumption) ?_
  try simp only [Act.put, List.getElem_toArray, List.getElem_cons_zero, List.getElem_cons_succ, List.setIfInBounds_toArray, List.set_cons_zero, List.set_cons_succ]
  refine wpAnyH_take (i := 11) (v := (undef)) rfl (by kernel_rfl) (by kernel_rfl) (by kernel_rfl) (fun _ _ _ h => h) (Or.inr ⟨by kernel_rfl, rfl⟩) (by assumption) ?_
  try simp only [Act.put, List.getElem_toArray, List.getElem_cons_zero, List.getElem_cons_succ, List.setIfInBounds_toArray, List.set_cons_zero, List.set_cons_succ]
  refine wpAnyH_take (i := 12) (v := (undef)) rfl (by kernel_rfl) (by kernel_rfl) (by kernel_rfl) (fun _ _ _ h => h) (Or.inr ⟨by kernel_rfl, rfl⟩) (by assumption) ?_
  try simp only [Act.put, List.getElem_toArray, List.getElem_cons_zero, List.getElem_cons_succ, List.setIfInBounds_toArray, List.set_cons_zero, List.set_cons_succ]
  refine wpAnyH_take (i := 13) (v := (undef)) rfl (by kernel_rfl) (by kernel_rfl) (by kernel_rfl) (fun _ _ _ h => h) (Or.inr ⟨by kernel_rfl, rfl⟩) (by assumption) ?_
  try simp only [Act.put, List.getElem_toArray, List.getElem_cons_zero, List.getElem_cons_succ, List.setIfInBounds_toArray, List.set_cons_zero, List.set_cons_succ]
  refine wpAnyH_take (i := 14) (v := (.bool true)) rfl (by kernel_rfl) (by kernel_rfl) (by kernel_rfl) (fun _ _ _ h => h) (Or.inl ⟨by kernel_rfl, fun w' hSw => (by go_simp)⟩) (by assumption) ?_
  try simp only [Act.put, List.getElem_toArray, List.getElem_cons_zero, List.getElem_cons_succ, List.setIfInBounds_toArray, List.set_cons_zero, List.set_cons_succ]
  refine wpAnyH_take (i := 15) (v := (.bool true)) rfl (by kernel_rfl) (by kernel_rfl) (by kernel_rfl) (fun _ _ _ h => h) (Or.inl ⟨by kernel_rfl, fun w' hSw => (by go_simp)⟩) (by assumption) ?_
  try simp only [Act.put, List.getElem_toArray, List.getElem_cons_zero, List.getElem_cons_succ, List.setIfInBounds_toArray, List.set_cons_zero, List.set_cons_succ]
  refine wpAnyH_done (by kernel_rfl) ?_ _
  go_wp2_with fail
  go_ret
  exact ⟨ret_b HE.out.symm, HU.out.trans (HB.out.mono HU.out.size)⟩
set_option maxRecDepth 100000 in
set_option maxHeartbeats 6400000 in
theorem within_12 {w : World} {v : Value} {n : Dc.Nm} (hn : Dc.NmR w v n) (h0 : n.2.2 = 0) : Calls Tryz.prog 43 #[.int .i64 12, Dc.nmV n.1 v n.2.2] w fun e w' => e = .returned (.bool (wiB 12 (Dc.nv n 0))) ∧ Below w.heap.size w w' := by
  have hh := (cmp_whole hn.cn h0 pb0c rfl).2
  rw [pb0v] at hh
  have HW : Hid (True ∧ (Dc.cmpS n (false, [0], 0) ≤ 0 ↔ Dc.nv n 0 ≤ 0)) := ⟨trivial, hh⟩
  clear hh
  obtain ⟨va, vc, rfl, _⟩ := hn.bt.form
  have hx := M.nw_heap w (.cells #[.bool n.1, .slice va n.2.1.length vc, .int .i64 n.2.2] 43)
  have hb1 : Below w.heap.size w (((w.alloc (.cells #[.bool n.1, .slice va n.2.1.length vc, .int .i64 n.2.2] 43)).alloc (.cells loT 9)).alloc (.cells hiT 9)) := bel3 w _ _ _
  have hS := blocks3 w (.cells #[.bool n.1, .slice va n.2.1.length vc, .int .i64 n.2.2] 43) (.cells loT 9) (.cells hiT 9)
  obtain ⟨U, hU⟩ : ∃ U, ((w.alloc (.cells #[.bool n.1, .slice va n.2.1.length vc, .int .i64 n.2.2] 43)).alloc (.cells loT 9)).alloc (.cells hiT 9) = U := ⟨_, rfl⟩
  rw [hU] at hb1 hS
  have HN : Hid _ := fun W (hW : Below U.heap.size U W) => hn.below (hb1.trans (hW.mono hb1.size))
  have HK : Hid (∀ W, Below U.heap.size U W → _ ∧ _ ∧ _) := fun W hW => And.intro ((hW.block _ (Dc.lt_of hS.1)).trans hS.1) (And.intro ((hW.block _ (Dc.lt_of hS.2.1)).trans hS.2.1) ((hW.block _ (Dc.lt_of hS.2.2)).trans hS.2.2))
  have HU : Hid _ := hb1
  clear hx hb1 hS hn h0
  obtain ⟨d, HCh⟩ : ∃ d, Dc.cmpS n (false, [0], 0) = d := ⟨_, rfl⟩
  go_enter Tryz.func43, Tryz.ntmps43
  go_upto_region 3 with fail
  try rw [show ((w.alloc (.cells #[.bool n.1, .slice va n.2.1.length vc, .int .i64 n.2.2] 43)).alloc (.cells #[.string ⟨#[]⟩, .string ⟨#[]⟩, .string ⟨#[]⟩, .string ⟨#[]⟩, .string ⟨#[]⟩, .string ⟨#[]⟩, .string ⟨#[]⟩, .string ⟨#[]⟩, .string ⟨#[]⟩, .string ⟨#[]⟩, .string ⟨#[]⟩, .string ⟨#[]⟩, .string ⟨#[]⟩, .string ⟨#[]⟩, .string ⟨#[48]⟩, .string ⟨#[49]⟩, .string ⟨#[45, 57, 50, 50, 51, 51, 55, 50, 48, 51, 54, 56, 53, 52, 55, 55, 53, 56, 48, 56]⟩, .string ⟨#[45, 50, 49, 52, 55, 52, 56, 51, 54, 52, 56]⟩, .string ⟨#[45, 51, 50, 55, 54, 56]⟩, .string ⟨#[45, 49, 50, 56]⟩, .string ⟨#[48]⟩, .string ⟨#[48]⟩, .string ⟨#[48]⟩, .string ⟨#[48]⟩] 9)).alloc (.cells #[.string ⟨#[]⟩, .string ⟨#[]⟩, .string ⟨#[]⟩, .string ⟨#[]⟩, .string ⟨#[]⟩, .string ⟨#[]⟩, .string ⟨#[]⟩, .string ⟨#[]⟩, .string ⟨#[]⟩, .string ⟨#[]⟩, .string ⟨#[]⟩, .string ⟨#[]⟩, .string ⟨#[48]⟩, .string ⟨#[45, 49]⟩, .string ⟨#[]⟩, .string ⟨#[]⟩, .string ⟨#[57, 50, 50, 51, 51, 55, 50, 48, 51, 54, 56, 53, 52, 55, 55, 53, 56, 48, 55]⟩, .string ⟨#[50, 49, 52, 55, 52, 56, 51, 54, 52, 55]⟩, .string ⟨#[51, 50, 55, 54, 55]⟩, .string ⟨#[49, 50, 55]⟩, .string ⟨#[49, 56, 52, 52, 54, 55, 52, 52, 48, 55, 51, 55, 48, 57, 53, 53, 49, 54, 49, 53]⟩, .string ⟨#[52, 50, 57, 52, 57, 54, 55, 50, 57, 53]⟩, .string ⟨#[54, 53, 53, 51, 53]⟩, .string ⟨#[50, 53, 53]⟩] 9) = U from hU]
  clear hU
  have HB : Hid (Below U.heap.size U U.drew) := Dc.Below.drewN' 1
  refine wp_region_held_drew (S := fun W => W.heap[w.heap.size]? = some (.cells #[.bool n.1, .slice va n.2.1.length vc, .int .i64 n.2.2] 43 (0, 0)) ∧ W.heap[w.heap.size + 1]? = some (.cells loT 9 (0, 0)) ∧ W.heap[w.heap.size + 1 + 1]? = some (.cells hiT 9 (0, 0))) (by kernel_rfl) (HK.out _ HB.out) (fun hHeld => ?_)
  refine wpAnyH_take (i := 0) (v := (.slice (some ⟨w.heap.size + 1, 0, none⟩) 24 24)) rfl (by kernel_rfl) (by kernel_rfl) (by kernel_rfl) (fun _ _ _ h => h) (Or.inl ⟨by kernel_rfl, fun w' hSw => (by go_simp)⟩) (by assumption) ?_
  try simp only [Act.put, List.getElem_toArray, List.getElem_cons_zero, List.getElem_cons_succ, List.setIfInBounds_toArray, List.set_cons_zero, List.set_cons_succ]
  refine wpAnyH_take (i := 1) (v := (.int .i64 12)) rfl (by kernel_rfl) (by kernel_rfl) (by kernel_rfl) (fun _ _ _ h => h) (Or.inl ⟨by kernel_rfl, fun w' hSw => (by go_simp)⟩) (by assumption) ?_
  try simp only [Act.put, List.getElem_toArray, List.getElem_cons_zero, List.getElem_cons_succ, List.setIfInBounds_toArray, List.set_cons_zero, List.set_cons_succ]
  refine wpAnyH_take (i := 2) (v := (.pointer (some ⟨w.heap.size + 1, 12, none⟩))) rfl (by kernel_rfl) (by kernel_rfl) (by kernel_rfl) (fun _ _ _ h => h) (Or.inl ⟨by kernel_rfl, fun w' hSw => (by go_simp)⟩) (by assumption) ?_
  try simp only [Act.put, List.getElem_toArray, List.getElem_cons_zero, List.getElem_cons_succ, List.setIfInBounds_toArray, List.set_cons_zero, List.set_cons_succ]
  refine wpAnyH_take (i := 3) (v := (.string ⟨#[]⟩)) rfl (by kernel_rfl) (by kernel_rfl) (by kernel_rfl) (fun _ _ _ h => h) (Or.inl ⟨by kernel_rfl, fun w' hSw => (by have hc : w'.cell? ⟨w.heap.size + 1, 12, none⟩ = some (.string ⟨#[]⟩) := row_cell hSw.2.1; go_simp)⟩) (by assumption) ?_
  try simp only [Act.put, List.getElem_toArray, List.getElem_cons_zero, List.getElem_cons_succ, List.setIfInBounds_toArray, List.set_cons_zero, List.set_cons_succ]
  refine wpAnyH_take (i := 4) (v := (.bool false)) rfl (by kernel_rfl) (by kernel_rfl) (by kernel_rfl) (fun _ _ _ h => h) (Or.inl ⟨by kernel_rfl, fun w' hSw => (by go_simp)⟩) (by assumption) ?_
  try simp only [Act.put, List.getElem_toArray, List.getElem_cons_zero, List.getElem_cons_succ, List.setIfInBounds_toArray, List.set_cons_zero, List.set_cons_succ]
  refine wpAnyH_take (i := 5) (v := (.bool false)) rfl (by kernel_rfl) (by kernel_rfl) (by kernel_rfl) (fun _ _ _ h => h) (Or.inl ⟨by kernel_rfl, fun w' hSw => (by go_simp)⟩) (by assumption) ?_
  try simp only [Act.put, List.getElem_toArray, List.getElem_cons_zero, List.getElem_cons_succ, List.setIfInBounds_toArray, List.set_cons_zero, List.set_cons_succ]
  refine wpAnyH_take (i := 6) (v := (undef)) rfl (by kernel_rfl) (by kernel_rfl) (by kernel_rfl) (fun _ _ _ h => h) (Or.inr ⟨by kernel_rfl, rfl⟩) (by assumption) ?_
  try simp only [Act.put, List.getElem_toArray, List.getElem_cons_zero, List.getElem_cons_succ, List.setIfInBounds_toArray, List.set_cons_zero, List.set_cons_succ]
  refine wpAnyH_take (i := 7) (v := (undef)) rfl (by kernel_rfl) (by kernel_rfl) (by kernel_rfl) (fun _ _ _ h => h) (Or.inr ⟨by kernel_rfl, rfl⟩) (by assumption) ?_
  try simp only [Act.put, List.getElem_toArray, List.getElem_cons_zero, List.getElem_cons_succ, List.setIfInBounds_toArray, List.set_cons_zero, List.set_cons_succ]
  refine wpAnyH_take (i := 8) (v := (undef)) rfl (by kernel_rfl) (by kernel_rfl) (by kernel_rfl) (fun _ _ _ h => h) (Or.inr ⟨by kernel_rfl, rfl⟩) (by assumption) ?_
  try simp only [Act.put, List.getElem_toArray, List.getElem_cons_zero, List.getElem_cons_succ, List.setIfInBounds_toArray, List.set_cons_zero, List.set_cons_succ]
  refine wpAnyH_take (i := 9) (v := (undef)) rfl (by kernel_rfl) (by kernel_rfl) (by kernel_rfl) (fun _ _ _ h => h) (Or.inr ⟨by kernel_rfl, rfl⟩) (by assumption) ?_
  try simp only [Act.put, List.getElem_toArray, List.getElem_cons_zero, List.getElem_cons_succ, List.setIfInBounds_toArray, List.set_cons_zero, List.set_cons_succ]
  refine wpAnyH_take (i := 10) (v := (undef)) rfl (by kernel_rfl) (by kernel_rfl) (by kernel_rfl) (fun _ _ _ h => h) (Or.inr ⟨by kernel_rfl, rfl⟩) (by assumption) ?_
  try simp only [Act.put, List.getElem_toArray, List.getElem_cons_zero, List.getElem_cons_succ, List.setIfInBounds_toArray, List.set_cons_zero, List.set_cons_succ]
  refine wpAnyH_take (i := 11) (v := (undef)) rfl (by kernel_rfl) (by kernel_rfl) (by kernel_rfl) (fun _ _ _ h => h) (Or.inr ⟨by kernel_rfl, rfl⟩) (by assumption) ?_
  try simp only [Act.put, List.getElem_toArray, List.getElem_cons_zero, List.getElem_cons_succ, List.setIfInBounds_toArray, List.set_cons_zero, List.set_cons_succ]
  refine wpAnyH_take (i := 12) (v := (undef)) rfl (by kernel_rfl) (by kernel_rfl) (by kernel_rfl) (fun _ _ _ h => h) (Or.inr ⟨by kernel_rfl, rfl⟩) (by assumption) ?_
  try simp only [Act.put, List.getElem_toArray, List.getElem_cons_zero, List.getElem_cons_succ, List.setIfInBounds_toArray, List.set_cons_zero, List.set_cons_succ]
  refine wpAnyH_take (i := 13) (v := (undef)) rfl (by kernel_rfl) (by kernel_rfl) (by kernel_rfl) (fun _ _ _ h => h) (Or.inr ⟨by kernel_rfl, rfl⟩) (by assumption) ?_
  try simp only [Act.put, List.getElem_toArray, List.getElem_cons_zero, List.getElem_cons_succ, List.setIfInBounds_toArray, List.set_cons_zero, List.set_cons_succ]
  refine wpAnyH_take (i := 14) (v := (.bool false)) rfl (by kernel_rfl) (by kernel_rfl) (by kernel_rfl) (fun _ _ _ h => h) (Or.inl ⟨by kernel_rfl, fun w' hSw => (by go_simp)⟩) (by assumption) ?_
  try simp only [Act.put, List.getElem_toArray, List.getElem_cons_zero, List.getElem_cons_succ, List.setIfInBounds_toArray, List.set_cons_zero, List.set_cons_succ]
  refine wpAnyH_done (by kernel_rfl) ?_ _
  clear hHeld
  go_upto_region 5 with fail
  by_cases hd : d ≤ 0
  · have hdd : decide (d ≤ 0) = true := by simpa using hd
    have HE : Hid (wiB 12 (Dc.nv n 0) = true) := by
      show _ = _
      have h2 := HW.out.2
      rw [HCh] at h2
      unfold wiB
      simp
      omega
    clear hd
    have HB1 : Hid _ := HB.out
    clear HB
    have HB : Hid (Below U.heap.size U U.drew.drew) := HB1.out.trans ((Dc.Below.drewN' 1).mono HB1.out.size)
    refine wp_region_held_drew (S := fun W => W.heap[w.heap.size]? = some (.cells #[.bool n.1, .slice va n.2.1.length vc, .int .i64 n.2.2] 43 (0, 0)) ∧ W.heap[w.heap.size + 1]? = some (.cells loT 9 (0, 0)) ∧ W.heap[w.heap.size + 1 + 1]? = some (.cells hiT 9 (0, 0))) (by kernel_rfl) (HK.out _ HB.out) (fun hHeld => ?_)
    refine wpAnyH_take (i := 0) (v := (.slice (some ⟨w.heap.size + 1 + 1, 0, none⟩) 24 24)) rfl (by kernel_rfl) (by kernel_rfl) (by kernel_rfl) (fun _ _ _ h => h) (Or.inl ⟨by kernel_rfl, fun w' hSw => (by go_simp)⟩) (by assumption) ?_
    try simp only [Act.put, List.getElem_toArray, List.getElem_cons_zero, List.getElem_cons_succ, List.setIfInBounds_toArray, List.set_cons_zero, List.set_cons_succ]
    refine wpAnyH_take (i := 1) (v := (.int .i64 12)) rfl (by kernel_rfl) (by kernel_rfl) (by kernel_rfl) (fun _ _ _ h => h) (Or.inl ⟨by kernel_rfl, fun w' hSw => (by go_simp)⟩) (by assumption) ?_
    try simp only [Act.put, List.getElem_toArray, List.getElem_cons_zero, List.getElem_cons_succ, List.setIfInBounds_toArray, List.set_cons_zero, List.set_cons_succ]
    refine wpAnyH_take (i := 2) (v := (.pointer (some ⟨w.heap.size + 1 + 1, 12, none⟩))) rfl (by kernel_rfl) (by kernel_rfl) (by kernel_rfl) (fun _ _ _ h => h) (Or.inl ⟨by kernel_rfl, fun w' hSw => (by go_simp)⟩) (by assumption) ?_
    try simp only [Act.put, List.getElem_toArray, List.getElem_cons_zero, List.getElem_cons_succ, List.setIfInBounds_toArray, List.set_cons_zero, List.set_cons_succ]
    refine wpAnyH_take (i := 3) (v := (.string ⟨#[48]⟩)) rfl (by kernel_rfl) (by kernel_rfl) (by kernel_rfl) (fun _ _ _ h => h) (Or.inl ⟨by kernel_rfl, fun w' hSw => (by have hc : w'.cell? ⟨w.heap.size + 1 + 1, 12, none⟩ = some (.string ⟨#[48]⟩) := row_cell hSw.2.2; go_simp)⟩) (by assumption) ?_
    try simp only [Act.put, List.getElem_toArray, List.getElem_cons_zero, List.getElem_cons_succ, List.setIfInBounds_toArray, List.set_cons_zero, List.set_cons_succ]
    refine wpAnyH_take (i := 4) (v := (.bool false)) rfl (by kernel_rfl) (by kernel_rfl) (by kernel_rfl) (fun _ _ _ h => h) (Or.inl ⟨by kernel_rfl, fun w' hSw => (by go_simp)⟩) (by assumption) ?_
    try simp only [Act.put, List.getElem_toArray, List.getElem_cons_zero, List.getElem_cons_succ, List.setIfInBounds_toArray, List.set_cons_zero, List.set_cons_succ]
    refine wpAnyH_take (i := 5) (v := (.bool false)) rfl (by kernel_rfl) (by kernel_rfl) (by kernel_rfl) (fun _ _ _ h => h) (Or.inl ⟨by kernel_rfl, fun w' hSw => (by go_simp)⟩) (by assumption) ?_
    try simp only [Act.put, List.getElem_toArray, List.getElem_cons_zero, List.getElem_cons_succ, List.setIfInBounds_toArray, List.set_cons_zero, List.set_cons_succ]
    refine wpAnyH_take (i := 6) (v := (.agg #[.bool n.1, .slice va n.2.1.length vc, .int .i64 n.2.2])) rfl (by kernel_rfl) (by kernel_rfl) (by kernel_rfl) (fun _ _ _ h => h) (yieldsIf_load_mid (by kernel_rfl) 43 _ rfl w.heap.size 0 rfl [.bool n.1, .slice va n.2.1.length vc, .int .i64 n.2.2] _ (fun W hW => rng3 hW.1) Tryz.underlying43 rfl (by kernel_rfl)) (by assumption) ?_
    try simp only [Act.put, List.getElem_toArray, List.getElem_cons_zero, List.getElem_cons_succ, List.setIfInBounds_toArray, List.set_cons_zero, List.set_cons_succ]
    refine wpAnyH_take (i := 7) (v := (.slice (some ⟨w.heap.size + 1 + 1, 0, none⟩) 24 24)) rfl (by kernel_rfl) (by kernel_rfl) (by kernel_rfl) (fun _ _ _ h => h) (Or.inl ⟨by kernel_rfl, fun w' hSw => (by go_simp)⟩) (by assumption) ?_
    try simp only [Act.put, List.getElem_toArray, List.getElem_cons_zero, List.getElem_cons_succ, List.setIfInBounds_toArray, List.set_cons_zero, List.set_cons_succ]
    refine wpAnyH_take (i := 8) (v := (.int .i64 12)) rfl (by kernel_rfl) (by kernel_rfl) (by kernel_rfl) (fun _ _ _ h => h) (Or.inl ⟨by kernel_rfl, fun w' hSw => (by go_simp)⟩) (by assumption) ?_
    try simp only [Act.put, List.getElem_toArray, List.getElem_cons_zero, List.getElem_cons_succ, List.setIfInBounds_toArray, List.set_cons_zero, List.set_cons_succ]
    refine wpAnyH_take (i := 9) (v := (.pointer (some ⟨w.heap.size + 1 + 1, 12, none⟩))) rfl (by kernel_rfl) (by kernel_rfl) (by kernel_rfl) (fun _ _ _ h => h) (Or.inl ⟨by kernel_rfl, fun w' hSw => (by go_simp)⟩) (by assumption) ?_
    try simp only [Act.put, List.getElem_toArray, List.getElem_cons_zero, List.getElem_cons_succ, List.setIfInBounds_toArray, List.set_cons_zero, List.set_cons_succ]
    refine wpAnyH_take (i := 10) (v := (.string ⟨#[48]⟩)) rfl (by kernel_rfl) (by kernel_rfl) (by kernel_rfl) (fun _ _ _ h => h) (Or.inl ⟨by kernel_rfl, fun w' hSw => (by have hc : w'.cell? ⟨w.heap.size + 1 + 1, 12, none⟩ = some (.string ⟨#[48]⟩) := row_cell hSw.2.2; go_simp)⟩) (by assumption) ?_
    try simp only [Act.put, List.getElem_toArray, List.getElem_cons_zero, List.getElem_cons_succ, List.setIfInBounds_toArray, List.set_cons_zero, List.set_cons_succ]
    refine wpAnyH_ready (rs := [11]) (by kernel_rfl) (by simp) ?_
    refine AllReadyH.cons rfl (fun K hK => ?_) AllReadyH.nil
    go_simp
    refine Calls.mono (bound_r (n := (false, [0], 0)) ⟨#[48]⟩ _ (by decide) pb0) ?_
    rintro e w9 ⟨rv, rfl, hb9, hrv⟩
    have hbb := HB.out.trans (hb9.mono HB.out.size)
    have hS9 := HK.out _ hbb
    clear HB hHeld
    have HB : Hid _ := hbb
    have HRV : Hid _ := hrv
    clear hbb hb9 hrv
    go_wp2_with fail
    refine hK.out _ _ hS9 (fun hHeld => ?_)
    clear hK K hS9
    try simp only [Act.put, List.getElem_toArray, List.getElem_cons_zero, List.getElem_cons_succ, List.setIfInBounds_toArray, List.set_cons_zero, List.set_cons_succ]
    refine wpAnyH_ready (rs := [12]) (by kernel_rfl) (by simp) ?_
    refine AllReadyH.cons rfl (fun K hK => ?_) AllReadyH.nil
    go_simp
    have hcr := Dc.cmp_r (HN.out _ HB.out) HRV.out
    refine Calls.mono hcr ?_
    clear hcr
    rintro e w9 ⟨rfl, hb9⟩
    have hbb := HB.out.trans (hb9.mono HB.out.size)
    have hS9 := HK.out _ hbb
    clear HB hHeld
    have HB : Hid _ := hbb
    clear hbb hb9
    rw [HCh]
    go_wp2_with fail
    refine hK.out _ _ hS9 (fun hHeld => ?_)
    clear hK K hS9
    try simp only [Act.put, List.getElem_toArray, List.getElem_cons_zero, List.getElem_cons_succ, List.setIfInBounds_toArray, List.set_cons_zero, List.set_cons_succ]
    refine wpAnyH_take (i := 13) (v := (.bool true)) rfl (by kernel_rfl) (by kernel_rfl) (by kernel_rfl) (fun _ _ _ h => h) (Or.inl ⟨by kernel_rfl, fun w' hSw => (by go_simp)⟩) (by assumption) ?_
    try simp only [Act.put, List.getElem_toArray, List.getElem_cons_zero, List.getElem_cons_succ, List.setIfInBounds_toArray, List.set_cons_zero, List.set_cons_succ]
    refine wpAnyH_take (i := 14) (v := (.bool true)) rfl (by kernel_rfl) (by kernel_rfl) (by kernel_rfl) (fun _ _ _ h => h) (Or.inl ⟨by kernel_rfl, fun w' hSw => (by go_simp)⟩) (by assumption) ?_
    try simp only [Act.put, List.getElem_toArray, List.getElem_cons_zero, List.getElem_cons_succ, List.setIfInBounds_toArray, List.set_cons_zero, List.set_cons_succ]
    refine wpAnyH_take (i := 15) (v := (.bool true)) rfl (by kernel_rfl) (by kernel_rfl) (by kernel_rfl) (fun _ _ _ h => h) (Or.inl ⟨by kernel_rfl, fun w' hSw => (by go_simp)⟩) (by assumption) ?_
    try simp only [Act.put, List.getElem_toArray, List.getElem_cons_zero, List.getElem_cons_succ, List.setIfInBounds_toArray, List.set_cons_zero, List.set_cons_succ]
    refine wpAnyH_done (by kernel_rfl) ?_ _
    go_wp2_with fail
    go_ret
    exact ⟨ret_b HE.out.symm, HU.out.trans (HB.out.mono HU.out.size)⟩
  · have hdd : decide (d ≤ 0) = false := by simpa using hd
    have HE : Hid (wiB 12 (Dc.nv n 0) = false) := by
      show _ = _
      have h2 := HW.out.2
      rw [HCh] at h2
      unfold wiB
      simp
      omega
    clear hd
    have HB1 : Hid _ := HB.out
    clear HB
    have HB : Hid (Below U.heap.size U U.drew.drew) := HB1.out.trans ((Dc.Below.drewN' 1).mono HB1.out.size)
    refine wp_region_held_drew (S := fun W => W.heap[w.heap.size]? = some (.cells #[.bool n.1, .slice va n.2.1.length vc, .int .i64 n.2.2] 43 (0, 0)) ∧ W.heap[w.heap.size + 1]? = some (.cells loT 9 (0, 0)) ∧ W.heap[w.heap.size + 1 + 1]? = some (.cells hiT 9 (0, 0))) (by kernel_rfl) (HK.out _ HB.out) (fun hHeld => ?_)
    refine wpAnyH_take (i := 0) (v := (.slice (some ⟨w.heap.size + 1 + 1, 0, none⟩) 24 24)) rfl (by kernel_rfl) (by kernel_rfl) (by kernel_rfl) (fun _ _ _ h => h) (Or.inl ⟨by kernel_rfl, fun w' hSw => (by go_simp)⟩) (by assumption) ?_
    try simp only [Act.put, List.getElem_toArray, List.getElem_cons_zero, List.getElem_cons_succ, List.setIfInBounds_toArray, List.set_cons_zero, List.set_cons_succ]
    refine wpAnyH_take (i := 1) (v := (.int .i64 12)) rfl (by kernel_rfl) (by kernel_rfl) (by kernel_rfl) (fun _ _ _ h => h) (Or.inl ⟨by kernel_rfl, fun w' hSw => (by go_simp)⟩) (by assumption) ?_
    try simp only [Act.put, List.getElem_toArray, List.getElem_cons_zero, List.getElem_cons_succ, List.setIfInBounds_toArray, List.set_cons_zero, List.set_cons_succ]
    refine wpAnyH_take (i := 2) (v := (.pointer (some ⟨w.heap.size + 1 + 1, 12, none⟩))) rfl (by kernel_rfl) (by kernel_rfl) (by kernel_rfl) (fun _ _ _ h => h) (Or.inl ⟨by kernel_rfl, fun w' hSw => (by go_simp)⟩) (by assumption) ?_
    try simp only [Act.put, List.getElem_toArray, List.getElem_cons_zero, List.getElem_cons_succ, List.setIfInBounds_toArray, List.set_cons_zero, List.set_cons_succ]
    refine wpAnyH_take (i := 3) (v := (.string ⟨#[48]⟩)) rfl (by kernel_rfl) (by kernel_rfl) (by kernel_rfl) (fun _ _ _ h => h) (Or.inl ⟨by kernel_rfl, fun w' hSw => (by have hc : w'.cell? ⟨w.heap.size + 1 + 1, 12, none⟩ = some (.string ⟨#[48]⟩) := row_cell hSw.2.2; go_simp)⟩) (by assumption) ?_
    try simp only [Act.put, List.getElem_toArray, List.getElem_cons_zero, List.getElem_cons_succ, List.setIfInBounds_toArray, List.set_cons_zero, List.set_cons_succ]
    refine wpAnyH_take (i := 4) (v := (.bool false)) rfl (by kernel_rfl) (by kernel_rfl) (by kernel_rfl) (fun _ _ _ h => h) (Or.inl ⟨by kernel_rfl, fun w' hSw => (by go_simp)⟩) (by assumption) ?_
    try simp only [Act.put, List.getElem_toArray, List.getElem_cons_zero, List.getElem_cons_succ, List.setIfInBounds_toArray, List.set_cons_zero, List.set_cons_succ]
    refine wpAnyH_take (i := 5) (v := (.bool false)) rfl (by kernel_rfl) (by kernel_rfl) (by kernel_rfl) (fun _ _ _ h => h) (Or.inl ⟨by kernel_rfl, fun w' hSw => (by go_simp)⟩) (by assumption) ?_
    try simp only [Act.put, List.getElem_toArray, List.getElem_cons_zero, List.getElem_cons_succ, List.setIfInBounds_toArray, List.set_cons_zero, List.set_cons_succ]
    refine wpAnyH_take (i := 6) (v := (.agg #[.bool n.1, .slice va n.2.1.length vc, .int .i64 n.2.2])) rfl (by kernel_rfl) (by kernel_rfl) (by kernel_rfl) (fun _ _ _ h => h) (yieldsIf_load_mid (by kernel_rfl) 43 _ rfl w.heap.size 0 rfl [.bool n.1, .slice va n.2.1.length vc, .int .i64 n.2.2] _ (fun W hW => rng3 hW.1) Tryz.underlying43 rfl (by kernel_rfl)) (by assumption) ?_
    try simp only [Act.put, List.getElem_toArray, List.getElem_cons_zero, List.getElem_cons_succ, List.setIfInBounds_toArray, List.set_cons_zero, List.set_cons_succ]
    refine wpAnyH_take (i := 7) (v := (.slice (some ⟨w.heap.size + 1 + 1, 0, none⟩) 24 24)) rfl (by kernel_rfl) (by kernel_rfl) (by kernel_rfl) (fun _ _ _ h => h) (Or.inl ⟨by kernel_rfl, fun w' hSw => (by go_simp)⟩) (by assumption) ?_
    try simp only [Act.put, List.getElem_toArray, List.getElem_cons_zero, List.getElem_cons_succ, List.setIfInBounds_toArray, List.set_cons_zero, List.set_cons_succ]
    refine wpAnyH_take (i := 8) (v := (.int .i64 12)) rfl (by kernel_rfl) (by kernel_rfl) (by kernel_rfl) (fun _ _ _ h => h) (Or.inl ⟨by kernel_rfl, fun w' hSw => (by go_simp)⟩) (by assumption) ?_
    try simp only [Act.put, List.getElem_toArray, List.getElem_cons_zero, List.getElem_cons_succ, List.setIfInBounds_toArray, List.set_cons_zero, List.set_cons_succ]
    refine wpAnyH_take (i := 9) (v := (.pointer (some ⟨w.heap.size + 1 + 1, 12, none⟩))) rfl (by kernel_rfl) (by kernel_rfl) (by kernel_rfl) (fun _ _ _ h => h) (Or.inl ⟨by kernel_rfl, fun w' hSw => (by go_simp)⟩) (by assumption) ?_
    try simp only [Act.put, List.getElem_toArray, List.getElem_cons_zero, List.getElem_cons_succ, List.setIfInBounds_toArray, List.set_cons_zero, List.set_cons_succ]
    refine wpAnyH_take (i := 10) (v := (.string ⟨#[48]⟩)) rfl (by kernel_rfl) (by kernel_rfl) (by kernel_rfl) (fun _ _ _ h => h) (Or.inl ⟨by kernel_rfl, fun w' hSw => (by have hc : w'.cell? ⟨w.heap.size + 1 + 1, 12, none⟩ = some (.string ⟨#[48]⟩) := row_cell hSw.2.2; go_simp)⟩) (by assumption) ?_
    try simp only [Act.put, List.getElem_toArray, List.getElem_cons_zero, List.getElem_cons_succ, List.setIfInBounds_toArray, List.set_cons_zero, List.set_cons_succ]
    refine wpAnyH_ready (rs := [11]) (by kernel_rfl) (by simp) ?_
    refine AllReadyH.cons rfl (fun K hK => ?_) AllReadyH.nil
    go_simp
    refine Calls.mono (bound_r (n := (false, [0], 0)) ⟨#[48]⟩ _ (by decide) pb0) ?_
    rintro e w9 ⟨rv, rfl, hb9, hrv⟩
    have hbb := HB.out.trans (hb9.mono HB.out.size)
    have hS9 := HK.out _ hbb
    clear HB hHeld
    have HB : Hid _ := hbb
    have HRV : Hid _ := hrv
    clear hbb hb9 hrv
    go_wp2_with fail
    refine hK.out _ _ hS9 (fun hHeld => ?_)
    clear hK K hS9
    try simp only [Act.put, List.getElem_toArray, List.getElem_cons_zero, List.getElem_cons_succ, List.setIfInBounds_toArray, List.set_cons_zero, List.set_cons_succ]
    refine wpAnyH_ready (rs := [12]) (by kernel_rfl) (by simp) ?_
    refine AllReadyH.cons rfl (fun K hK => ?_) AllReadyH.nil
    go_simp
    have hcr := Dc.cmp_r (HN.out _ HB.out) HRV.out
    refine Calls.mono hcr ?_
    clear hcr
    rintro e w9 ⟨rfl, hb9⟩
    have hbb := HB.out.trans (hb9.mono HB.out.size)
    have hS9 := HK.out _ hbb
    clear HB hHeld
    have HB : Hid _ := hbb
    clear hbb hb9
    rw [HCh]
    go_wp2_with fail
    refine hK.out _ _ hS9 (fun hHeld => ?_)
    clear hK K hS9
    try simp only [Act.put, List.getElem_toArray, List.getElem_cons_zero, List.getElem_cons_succ, List.setIfInBounds_toArray, List.set_cons_zero, List.set_cons_succ]
    refine wpAnyH_take (i := 13) (v := (.bool false)) rfl (by kernel_rfl) (by kernel_rfl) (by kernel_rfl) (fun _ _ _ h => h) (Or.inl ⟨by kernel_rfl, fun w' hSw => (by go_simp)⟩) (by assumption) ?_
    try simp only [Act.put, List.getElem_toArray, List.getElem_cons_zero, List.getElem_cons_succ, List.setIfInBounds_toArray, List.set_cons_zero, List.set_cons_succ]
    refine wpAnyH_take (i := 14) (v := (.bool false)) rfl (by kernel_rfl) (by kernel_rfl) (by kernel_rfl) (fun _ _ _ h => h) (Or.inl ⟨by kernel_rfl, fun w' hSw => (by go_simp)⟩) (by assumption) ?_
    try simp only [Act.put, List.getElem_toArray, List.getElem_cons_zero, List.getElem_cons_succ, List.setIfInBounds_toArray, List.set_cons_zero, List.set_cons_succ]
    refine wpAnyH_take (i := 15) (v := (.bool false)) rfl (by kernel_rfl) (by kernel_rfl) (by kernel_rfl) (fun _ _ _ h => h) (Or.inl ⟨by kernel_rfl, fun w' hSw => (by go_simp)⟩) (by assumption) ?_
    try simp only [Act.put, List.getElem_toArray, List.getElem_cons_zero, List.getElem_cons_succ, List.setIfInBounds_toArray, List.set_cons_zero, List.set_cons_succ]
    refine wpAnyH_done (by kernel_rfl) ?_ _
    go_wp2_with fail
    go_ret
    exact ⟨ret_b HE.out.symm, HU.out.trans (HB.out.mono HU.out.size)⟩
set_option maxRecDepth 100000 in
set_option maxHeartbeats 6400000 in
theorem within_13 {w : World} {v : Value} {n : Dc.Nm} (hn : Dc.NmR w v n) (h0 : n.2.2 = 0) : Calls Tryz.prog 43 #[.int .i64 13, Dc.nmV n.1 v n.2.2] w fun e w' => e = .returned (.bool (wiB 13 (Dc.nv n 0))) ∧ Below w.heap.size w w' := by
  have hh := (cmp_whole hn.cn h0 pb1c rfl).2
  rw [pb1v] at hh
  have HW : Hid (True ∧ (Dc.cmpS n (true, [1], 0) ≤ 0 ↔ Dc.nv n 0 ≤ -1)) := ⟨trivial, hh⟩
  clear hh
  obtain ⟨va, vc, rfl, _⟩ := hn.bt.form
  have hx := M.nw_heap w (.cells #[.bool n.1, .slice va n.2.1.length vc, .int .i64 n.2.2] 43)
  have hb1 : Below w.heap.size w (((w.alloc (.cells #[.bool n.1, .slice va n.2.1.length vc, .int .i64 n.2.2] 43)).alloc (.cells loT 9)).alloc (.cells hiT 9)) := bel3 w _ _ _
  have hS := blocks3 w (.cells #[.bool n.1, .slice va n.2.1.length vc, .int .i64 n.2.2] 43) (.cells loT 9) (.cells hiT 9)
  obtain ⟨U, hU⟩ : ∃ U, ((w.alloc (.cells #[.bool n.1, .slice va n.2.1.length vc, .int .i64 n.2.2] 43)).alloc (.cells loT 9)).alloc (.cells hiT 9) = U := ⟨_, rfl⟩
  rw [hU] at hb1 hS
  have HN : Hid _ := fun W (hW : Below U.heap.size U W) => hn.below (hb1.trans (hW.mono hb1.size))
  have HK : Hid (∀ W, Below U.heap.size U W → _ ∧ _ ∧ _) := fun W hW => And.intro ((hW.block _ (Dc.lt_of hS.1)).trans hS.1) (And.intro ((hW.block _ (Dc.lt_of hS.2.1)).trans hS.2.1) ((hW.block _ (Dc.lt_of hS.2.2)).trans hS.2.2))
  have HU : Hid _ := hb1
  clear hx hb1 hS hn h0
  obtain ⟨d, HCh⟩ : ∃ d, Dc.cmpS n (true, [1], 0) = d := ⟨_, rfl⟩
  go_enter Tryz.func43, Tryz.ntmps43
  go_upto_region 3 with fail
  try rw [show ((w.alloc (.cells #[.bool n.1, .slice va n.2.1.length vc, .int .i64 n.2.2] 43)).alloc (.cells #[.string ⟨#[]⟩, .string ⟨#[]⟩, .string ⟨#[]⟩, .string ⟨#[]⟩, .string ⟨#[]⟩, .string ⟨#[]⟩, .string ⟨#[]⟩, .string ⟨#[]⟩, .string ⟨#[]⟩, .string ⟨#[]⟩, .string ⟨#[]⟩, .string ⟨#[]⟩, .string ⟨#[]⟩, .string ⟨#[]⟩, .string ⟨#[48]⟩, .string ⟨#[49]⟩, .string ⟨#[45, 57, 50, 50, 51, 51, 55, 50, 48, 51, 54, 56, 53, 52, 55, 55, 53, 56, 48, 56]⟩, .string ⟨#[45, 50, 49, 52, 55, 52, 56, 51, 54, 52, 56]⟩, .string ⟨#[45, 51, 50, 55, 54, 56]⟩, .string ⟨#[45, 49, 50, 56]⟩, .string ⟨#[48]⟩, .string ⟨#[48]⟩, .string ⟨#[48]⟩, .string ⟨#[48]⟩] 9)).alloc (.cells #[.string ⟨#[]⟩, .string ⟨#[]⟩, .string ⟨#[]⟩, .string ⟨#[]⟩, .string ⟨#[]⟩, .string ⟨#[]⟩, .string ⟨#[]⟩, .string ⟨#[]⟩, .string ⟨#[]⟩, .string ⟨#[]⟩, .string ⟨#[]⟩, .string ⟨#[]⟩, .string ⟨#[48]⟩, .string ⟨#[45, 49]⟩, .string ⟨#[]⟩, .string ⟨#[]⟩, .string ⟨#[57, 50, 50, 51, 51, 55, 50, 48, 51, 54, 56, 53, 52, 55, 55, 53, 56, 48, 55]⟩, .string ⟨#[50, 49, 52, 55, 52, 56, 51, 54, 52, 55]⟩, .string ⟨#[51, 50, 55, 54, 55]⟩, .string ⟨#[49, 50, 55]⟩, .string ⟨#[49, 56, 52, 52, 54, 55, 52, 52, 48, 55, 51, 55, 48, 57, 53, 53, 49, 54, 49, 53]⟩, .string ⟨#[52, 50, 57, 52, 57, 54, 55, 50, 57, 53]⟩, .string ⟨#[54, 53, 53, 51, 53]⟩, .string ⟨#[50, 53, 53]⟩] 9) = U from hU]
  clear hU
  have HB : Hid (Below U.heap.size U U.drew) := Dc.Below.drewN' 1
  refine wp_region_held_drew (S := fun W => W.heap[w.heap.size]? = some (.cells #[.bool n.1, .slice va n.2.1.length vc, .int .i64 n.2.2] 43 (0, 0)) ∧ W.heap[w.heap.size + 1]? = some (.cells loT 9 (0, 0)) ∧ W.heap[w.heap.size + 1 + 1]? = some (.cells hiT 9 (0, 0))) (by kernel_rfl) (HK.out _ HB.out) (fun hHeld => ?_)
  refine wpAnyH_take (i := 0) (v := (.slice (some ⟨w.heap.size + 1, 0, none⟩) 24 24)) rfl (by kernel_rfl) (by kernel_rfl) (by kernel_rfl) (fun _ _ _ h => h) (Or.inl ⟨by kernel_rfl, fun w' hSw => (by go_simp)⟩) (by assumption) ?_
  try simp only [Act.put, List.getElem_toArray, List.getElem_cons_zero, List.getElem_cons_succ, List.setIfInBounds_toArray, List.set_cons_zero, List.set_cons_succ]
  refine wpAnyH_take (i := 1) (v := (.int .i64 13)) rfl (by kernel_rfl) (by kernel_rfl) (by kernel_rfl) (fun _ _ _ h => h) (Or.inl ⟨by kernel_rfl, fun w' hSw => (by go_simp)⟩) (by assumption) ?_
  try simp only [Act.put, List.getElem_toArray, List.getElem_cons_zero, List.getElem_cons_succ, List.setIfInBounds_toArray, List.set_cons_zero, List.set_cons_succ]
  refine wpAnyH_take (i := 2) (v := (.pointer (some ⟨w.heap.size + 1, 13, none⟩))) rfl (by kernel_rfl) (by kernel_rfl) (by kernel_rfl) (fun _ _ _ h => h) (Or.inl ⟨by kernel_rfl, fun w' hSw => (by go_simp)⟩) (by assumption) ?_
  try simp only [Act.put, List.getElem_toArray, List.getElem_cons_zero, List.getElem_cons_succ, List.setIfInBounds_toArray, List.set_cons_zero, List.set_cons_succ]
  refine wpAnyH_take (i := 3) (v := (.string ⟨#[]⟩)) rfl (by kernel_rfl) (by kernel_rfl) (by kernel_rfl) (fun _ _ _ h => h) (Or.inl ⟨by kernel_rfl, fun w' hSw => (by have hc : w'.cell? ⟨w.heap.size + 1, 13, none⟩ = some (.string ⟨#[]⟩) := row_cell hSw.2.1; go_simp)⟩) (by assumption) ?_
  try simp only [Act.put, List.getElem_toArray, List.getElem_cons_zero, List.getElem_cons_succ, List.setIfInBounds_toArray, List.set_cons_zero, List.set_cons_succ]
  refine wpAnyH_take (i := 4) (v := (.bool false)) rfl (by kernel_rfl) (by kernel_rfl) (by kernel_rfl) (fun _ _ _ h => h) (Or.inl ⟨by kernel_rfl, fun w' hSw => (by go_simp)⟩) (by assumption) ?_
  try simp only [Act.put, List.getElem_toArray, List.getElem_cons_zero, List.getElem_cons_succ, List.setIfInBounds_toArray, List.set_cons_zero, List.set_cons_succ]
  refine wpAnyH_take (i := 5) (v := (.bool false)) rfl (by kernel_rfl) (by kernel_rfl) (by kernel_rfl) (fun _ _ _ h => h) (Or.inl ⟨by kernel_rfl, fun w' hSw => (by go_simp)⟩) (by assumption) ?_
  try simp only [Act.put, List.getElem_toArray, List.getElem_cons_zero, List.getElem_cons_succ, List.setIfInBounds_toArray, List.set_cons_zero, List.set_cons_succ]
  refine wpAnyH_take (i := 6) (v := (undef)) rfl (by kernel_rfl) (by kernel_rfl) (by kernel_rfl) (fun _ _ _ h => h) (Or.inr ⟨by kernel_rfl, rfl⟩) (by assumption) ?_
  try simp only [Act.put, List.getElem_toArray, List.getElem_cons_zero, List.getElem_cons_succ, List.setIfInBounds_toArray, List.set_cons_zero, List.set_cons_succ]
  refine wpAnyH_take (i := 7) (v := (undef)) rfl (by kernel_rfl) (by kernel_rfl) (by kernel_rfl) (fun _ _ _ h => h) (Or.inr ⟨by kernel_rfl, rfl⟩) (by assumption) ?_
  try simp only [Act.put, List.getElem_toArray, List.getElem_cons_zero, List.getElem_cons_succ, List.setIfInBounds_toArray, List.set_cons_zero, List.set_cons_succ]
  refine wpAnyH_take (i := 8) (v := (undef)) rfl (by kernel_rfl) (by kernel_rfl) (by kernel_rfl) (fun _ _ _ h => h) (Or.inr ⟨by kernel_rfl, rfl⟩) (by assumption) ?_
  try simp only [Act.put, List.getElem_toArray, List.getElem_cons_zero, List.getElem_cons_succ, List.setIfInBounds_toArray, List.set_cons_zero, List.set_cons_succ]
  refine wpAnyH_take (i := 9) (v := (undef)) rfl (by kernel_rfl) (by kernel_rfl) (by kernel_rfl) (fun _ _ _ h => h) (Or.inr ⟨by kernel_rfl, rfl⟩) (by assumption) ?_
  try simp only [Act.put, List.getElem_toArray, List.getElem_cons_zero, List.getElem_cons_succ, List.setIfInBounds_toArray, List.set_cons_zero, List.set_cons_succ]
  refine wpAnyH_take (i := 10) (v := (undef)) rfl (by kernel_rfl) (by kernel_rfl) (by kernel_rfl) (fun _ _ _ h => h) (Or.inr ⟨by kernel_rfl, rfl⟩) (by assumption) ?_
  try simp only [Act.put, List.getElem_toArray, List.getElem_cons_zero, List.getElem_cons_succ, List.setIfInBounds_toArray, List.set_cons_zero, List.set_cons_succ]
  refine wpAnyH_take (i := 11) (v := (undef)) rfl (by kernel_rfl) (by kernel_rfl) (by kernel_rfl) (fun _ _ _ h => h) (Or.inr ⟨by kernel_rfl, rfl⟩) (by assumption) ?_
  try simp only [Act.put, List.getElem_toArray, List.getElem_cons_zero, List.getElem_cons_succ, List.setIfInBounds_toArray, List.set_cons_zero, List.set_cons_succ]
  refine wpAnyH_take (i := 12) (v := (undef)) rfl (by kernel_rfl) (by kernel_rfl) (by kernel_rfl) (fun _ _ _ h => h) (Or.inr ⟨by kernel_rfl, rfl⟩) (by assumption) ?_
  try simp only [Act.put, List.getElem_toArray, List.getElem_cons_zero, List.getElem_cons_succ, List.setIfInBounds_toArray, List.set_cons_zero, List.set_cons_succ]
  refine wpAnyH_take (i := 13) (v := (undef)) rfl (by kernel_rfl) (by kernel_rfl) (by kernel_rfl) (fun _ _ _ h => h) (Or.inr ⟨by kernel_rfl, rfl⟩) (by assumption) ?_
  try simp only [Act.put, List.getElem_toArray, List.getElem_cons_zero, List.getElem_cons_succ, List.setIfInBounds_toArray, List.set_cons_zero, List.set_cons_succ]
  refine wpAnyH_take (i := 14) (v := (.bool false)) rfl (by kernel_rfl) (by kernel_rfl) (by kernel_rfl) (fun _ _ _ h => h) (Or.inl ⟨by kernel_rfl, fun w' hSw => (by go_simp)⟩) (by assumption) ?_
  try simp only [Act.put, List.getElem_toArray, List.getElem_cons_zero, List.getElem_cons_succ, List.setIfInBounds_toArray, List.set_cons_zero, List.set_cons_succ]
  refine wpAnyH_done (by kernel_rfl) ?_ _
  clear hHeld
  go_upto_region 5 with fail
  by_cases hd : d ≤ 0
  · have hdd : decide (d ≤ 0) = true := by simpa using hd
    have HE : Hid (wiB 13 (Dc.nv n 0) = true) := by
      show _ = _
      have h2 := HW.out.2
      rw [HCh] at h2
      unfold wiB
      simp
      omega
    clear hd
    have HB1 : Hid _ := HB.out
    clear HB
    have HB : Hid (Below U.heap.size U U.drew.drew) := HB1.out.trans ((Dc.Below.drewN' 1).mono HB1.out.size)
    refine wp_region_held_drew (S := fun W => W.heap[w.heap.size]? = some (.cells #[.bool n.1, .slice va n.2.1.length vc, .int .i64 n.2.2] 43 (0, 0)) ∧ W.heap[w.heap.size + 1]? = some (.cells loT 9 (0, 0)) ∧ W.heap[w.heap.size + 1 + 1]? = some (.cells hiT 9 (0, 0))) (by kernel_rfl) (HK.out _ HB.out) (fun hHeld => ?_)
    refine wpAnyH_take (i := 0) (v := (.slice (some ⟨w.heap.size + 1 + 1, 0, none⟩) 24 24)) rfl (by kernel_rfl) (by kernel_rfl) (by kernel_rfl) (fun _ _ _ h => h) (Or.inl ⟨by kernel_rfl, fun w' hSw => (by go_simp)⟩) (by assumption) ?_
    try simp only [Act.put, List.getElem_toArray, List.getElem_cons_zero, List.getElem_cons_succ, List.setIfInBounds_toArray, List.set_cons_zero, List.set_cons_succ]
    refine wpAnyH_take (i := 1) (v := (.int .i64 13)) rfl (by kernel_rfl) (by kernel_rfl) (by kernel_rfl) (fun _ _ _ h => h) (Or.inl ⟨by kernel_rfl, fun w' hSw => (by go_simp)⟩) (by assumption) ?_
    try simp only [Act.put, List.getElem_toArray, List.getElem_cons_zero, List.getElem_cons_succ, List.setIfInBounds_toArray, List.set_cons_zero, List.set_cons_succ]
    refine wpAnyH_take (i := 2) (v := (.pointer (some ⟨w.heap.size + 1 + 1, 13, none⟩))) rfl (by kernel_rfl) (by kernel_rfl) (by kernel_rfl) (fun _ _ _ h => h) (Or.inl ⟨by kernel_rfl, fun w' hSw => (by go_simp)⟩) (by assumption) ?_
    try simp only [Act.put, List.getElem_toArray, List.getElem_cons_zero, List.getElem_cons_succ, List.setIfInBounds_toArray, List.set_cons_zero, List.set_cons_succ]
    refine wpAnyH_take (i := 3) (v := (.string ⟨#[45, 49]⟩)) rfl (by kernel_rfl) (by kernel_rfl) (by kernel_rfl) (fun _ _ _ h => h) (Or.inl ⟨by kernel_rfl, fun w' hSw => (by have hc : w'.cell? ⟨w.heap.size + 1 + 1, 13, none⟩ = some (.string ⟨#[45, 49]⟩) := row_cell hSw.2.2; go_simp)⟩) (by assumption) ?_
    try simp only [Act.put, List.getElem_toArray, List.getElem_cons_zero, List.getElem_cons_succ, List.setIfInBounds_toArray, List.set_cons_zero, List.set_cons_succ]
    refine wpAnyH_take (i := 4) (v := (.bool false)) rfl (by kernel_rfl) (by kernel_rfl) (by kernel_rfl) (fun _ _ _ h => h) (Or.inl ⟨by kernel_rfl, fun w' hSw => (by go_simp)⟩) (by assumption) ?_
    try simp only [Act.put, List.getElem_toArray, List.getElem_cons_zero, List.getElem_cons_succ, List.setIfInBounds_toArray, List.set_cons_zero, List.set_cons_succ]
    refine wpAnyH_take (i := 5) (v := (.bool false)) rfl (by kernel_rfl) (by kernel_rfl) (by kernel_rfl) (fun _ _ _ h => h) (Or.inl ⟨by kernel_rfl, fun w' hSw => (by go_simp)⟩) (by assumption) ?_
    try simp only [Act.put, List.getElem_toArray, List.getElem_cons_zero, List.getElem_cons_succ, List.setIfInBounds_toArray, List.set_cons_zero, List.set_cons_succ]
    refine wpAnyH_take (i := 6) (v := (.agg #[.bool n.1, .slice va n.2.1.length vc, .int .i64 n.2.2])) rfl (by kernel_rfl) (by kernel_rfl) (by kernel_rfl) (fun _ _ _ h => h) (yieldsIf_load_mid (by kernel_rfl) 43 _ rfl w.heap.size 0 rfl [.bool n.1, .slice va n.2.1.length vc, .int .i64 n.2.2] _ (fun W hW => rng3 hW.1) Tryz.underlying43 rfl (by kernel_rfl)) (by assumption) ?_
    try simp only [Act.put, List.getElem_toArray, List.getElem_cons_zero, List.getElem_cons_succ, List.setIfInBounds_toArray, List.set_cons_zero, List.set_cons_succ]
    refine wpAnyH_take (i := 7) (v := (.slice (some ⟨w.heap.size + 1 + 1, 0, none⟩) 24 24)) rfl (by kernel_rfl) (by kernel_rfl) (by kernel_rfl) (fun _ _ _ h => h) (Or.inl ⟨by kernel_rfl, fun w' hSw => (by go_simp)⟩) (by assumption) ?_
    try simp only [Act.put, List.getElem_toArray, List.getElem_cons_zero, List.getElem_cons_succ, List.setIfInBounds_toArray, List.set_cons_zero, List.set_cons_succ]
    refine wpAnyH_take (i := 8) (v := (.int .i64 13)) rfl (by kernel_rfl) (by kernel_rfl) (by kernel_rfl) (fun _ _ _ h => h) (Or.inl ⟨by kernel_rfl, fun w' hSw => (by go_simp)⟩) (by assumption) ?_
    try simp only [Act.put, List.getElem_toArray, List.getElem_cons_zero, List.getElem_cons_succ, List.setIfInBounds_toArray, List.set_cons_zero, List.set_cons_succ]
    refine wpAnyH_take (i := 9) (v := (.pointer (some ⟨w.heap.size + 1 + 1, 13, none⟩))) rfl (by kernel_rfl) (by kernel_rfl) (by kernel_rfl) (fun _ _ _ h => h) (Or.inl ⟨by kernel_rfl, fun w' hSw => (by go_simp)⟩) (by assumption) ?_
    try simp only [Act.put, List.getElem_toArray, List.getElem_cons_zero, List.getElem_cons_succ, List.setIfInBounds_toArray, List.set_cons_zero, List.set_cons_succ]
    refine wpAnyH_take (i := 10) (v := (.string ⟨#[45, 49]⟩)) rfl (by kernel_rfl) (by kernel_rfl) (by kernel_rfl) (fun _ _ _ h => h) (Or.inl ⟨by kernel_rfl, fun w' hSw => (by have hc : w'.cell? ⟨w.heap.size + 1 + 1, 13, none⟩ = some (.string ⟨#[45, 49]⟩) := row_cell hSw.2.2; go_simp)⟩) (by assumption) ?_
    try simp only [Act.put, List.getElem_toArray, List.getElem_cons_zero, List.getElem_cons_succ, List.setIfInBounds_toArray, List.set_cons_zero, List.set_cons_succ]
    refine wpAnyH_ready (rs := [11]) (by kernel_rfl) (by simp) ?_
    refine AllReadyH.cons rfl (fun K hK => ?_) AllReadyH.nil
    go_simp
    refine Calls.mono (bound_r (n := (true, [1], 0)) ⟨#[45, 49]⟩ _ (by decide) pb1) ?_
    rintro e w9 ⟨rv, rfl, hb9, hrv⟩
    have hbb := HB.out.trans (hb9.mono HB.out.size)
    have hS9 := HK.out _ hbb
    clear HB hHeld
    have HB : Hid _ := hbb
    have HRV : Hid _ := hrv
    clear hbb hb9 hrv
    go_wp2_with fail
    refine hK.out _ _ hS9 (fun hHeld => ?_)
    clear hK K hS9
    try simp only [Act.put, List.getElem_toArray, List.getElem_cons_zero, List.getElem_cons_succ, List.setIfInBounds_toArray, List.set_cons_zero, List.set_cons_succ]
    refine wpAnyH_ready (rs := [12]) (by kernel_rfl) (by simp) ?_
    refine AllReadyH.cons rfl (fun K hK => ?_) AllReadyH.nil
    go_simp
    have hcr := Dc.cmp_r (HN.out _ HB.out) HRV.out
    refine Calls.mono hcr ?_
    clear hcr
    rintro e w9 ⟨rfl, hb9⟩
    have hbb := HB.out.trans (hb9.mono HB.out.size)
    have hS9 := HK.out _ hbb
    clear HB hHeld
    have HB : Hid _ := hbb
    clear hbb hb9
    rw [HCh]
    go_wp2_with fail
    refine hK.out _ _ hS9 (fun hHeld => ?_)
    clear hK K hS9
    try simp only [Act.put, List.getElem_toArray, List.getElem_cons_zero, List.getElem_cons_succ, List.setIfInBounds_toArray, List.set_cons_zero, List.set_cons_succ]
    refine wpAnyH_take (i := 13) (v := (.bool true)) rfl (by kernel_rfl) (by kernel_rfl) (by kernel_rfl) (fun _ _ _ h => h) (Or.inl ⟨by kernel_rfl, fun w' hSw => (by go_simp)⟩) (by assumption) ?_
    try simp only [Act.put, List.getElem_toArray, List.getElem_cons_zero, List.getElem_cons_succ, List.setIfInBounds_toArray, List.set_cons_zero, List.set_cons_succ]
    refine wpAnyH_take (i := 14) (v := (.bool true)) rfl (by kernel_rfl) (by kernel_rfl) (by kernel_rfl) (fun _ _ _ h => h) (Or.inl ⟨by kernel_rfl, fun w' hSw => (by go_simp)⟩) (by assumption) ?_
    try simp only [Act.put, List.getElem_toArray, List.getElem_cons_zero, List.getElem_cons_succ, List.setIfInBounds_toArray, List.set_cons_zero, List.set_cons_succ]
    refine wpAnyH_take (i := 15) (v := (.bool true)) rfl (by kernel_rfl) (by kernel_rfl) (by kernel_rfl) (fun _ _ _ h => h) (Or.inl ⟨by kernel_rfl, fun w' hSw => (by go_simp)⟩) (by assumption) ?_
    try simp only [Act.put, List.getElem_toArray, List.getElem_cons_zero, List.getElem_cons_succ, List.setIfInBounds_toArray, List.set_cons_zero, List.set_cons_succ]
    refine wpAnyH_done (by kernel_rfl) ?_ _
    go_wp2_with fail
    go_ret
    exact ⟨ret_b HE.out.symm, HU.out.trans (HB.out.mono HU.out.size)⟩
  · have hdd : decide (d ≤ 0) = false := by simpa using hd
    have HE : Hid (wiB 13 (Dc.nv n 0) = false) := by
      show _ = _
      have h2 := HW.out.2
      rw [HCh] at h2
      unfold wiB
      simp
      omega
    clear hd
    have HB1 : Hid _ := HB.out
    clear HB
    have HB : Hid (Below U.heap.size U U.drew.drew) := HB1.out.trans ((Dc.Below.drewN' 1).mono HB1.out.size)
    refine wp_region_held_drew (S := fun W => W.heap[w.heap.size]? = some (.cells #[.bool n.1, .slice va n.2.1.length vc, .int .i64 n.2.2] 43 (0, 0)) ∧ W.heap[w.heap.size + 1]? = some (.cells loT 9 (0, 0)) ∧ W.heap[w.heap.size + 1 + 1]? = some (.cells hiT 9 (0, 0))) (by kernel_rfl) (HK.out _ HB.out) (fun hHeld => ?_)
    refine wpAnyH_take (i := 0) (v := (.slice (some ⟨w.heap.size + 1 + 1, 0, none⟩) 24 24)) rfl (by kernel_rfl) (by kernel_rfl) (by kernel_rfl) (fun _ _ _ h => h) (Or.inl ⟨by kernel_rfl, fun w' hSw => (by go_simp)⟩) (by assumption) ?_
    try simp only [Act.put, List.getElem_toArray, List.getElem_cons_zero, List.getElem_cons_succ, List.setIfInBounds_toArray, List.set_cons_zero, List.set_cons_succ]
    refine wpAnyH_take (i := 1) (v := (.int .i64 13)) rfl (by kernel_rfl) (by kernel_rfl) (by kernel_rfl) (fun _ _ _ h => h) (Or.inl ⟨by kernel_rfl, fun w' hSw => (by go_simp)⟩) (by assumption) ?_
    try simp only [Act.put, List.getElem_toArray, List.getElem_cons_zero, List.getElem_cons_succ, List.setIfInBounds_toArray, List.set_cons_zero, List.set_cons_succ]
    refine wpAnyH_take (i := 2) (v := (.pointer (some ⟨w.heap.size + 1 + 1, 13, none⟩))) rfl (by kernel_rfl) (by kernel_rfl) (by kernel_rfl) (fun _ _ _ h => h) (Or.inl ⟨by kernel_rfl, fun w' hSw => (by go_simp)⟩) (by assumption) ?_
    try simp only [Act.put, List.getElem_toArray, List.getElem_cons_zero, List.getElem_cons_succ, List.setIfInBounds_toArray, List.set_cons_zero, List.set_cons_succ]
    refine wpAnyH_take (i := 3) (v := (.string ⟨#[45, 49]⟩)) rfl (by kernel_rfl) (by kernel_rfl) (by kernel_rfl) (fun _ _ _ h => h) (Or.inl ⟨by kernel_rfl, fun w' hSw => (by have hc : w'.cell? ⟨w.heap.size + 1 + 1, 13, none⟩ = some (.string ⟨#[45, 49]⟩) := row_cell hSw.2.2; go_simp)⟩) (by assumption) ?_
    try simp only [Act.put, List.getElem_toArray, List.getElem_cons_zero, List.getElem_cons_succ, List.setIfInBounds_toArray, List.set_cons_zero, List.set_cons_succ]
    refine wpAnyH_take (i := 4) (v := (.bool false)) rfl (by kernel_rfl) (by kernel_rfl) (by kernel_rfl) (fun _ _ _ h => h) (Or.inl ⟨by kernel_rfl, fun w' hSw => (by go_simp)⟩) (by assumption) ?_
    try simp only [Act.put, List.getElem_toArray, List.getElem_cons_zero, List.getElem_cons_succ, List.setIfInBounds_toArray, List.set_cons_zero, List.set_cons_succ]
    refine wpAnyH_take (i := 5) (v := (.bool false)) rfl (by kernel_rfl) (by kernel_rfl) (by kernel_rfl) (fun _ _ _ h => h) (Or.inl ⟨by kernel_rfl, fun w' hSw => (by go_simp)⟩) (by assumption) ?_
    try simp only [Act.put, List.getElem_toArray, List.getElem_cons_zero, List.getElem_cons_succ, List.setIfInBounds_toArray, List.set_cons_zero, List.set_cons_succ]
    refine wpAnyH_take (i := 6) (v := (.agg #[.bool n.1, .slice va n.2.1.length vc, .int .i64 n.2.2])) rfl (by kernel_rfl) (by kernel_rfl) (by kernel_rfl) (fun _ _ _ h => h) (yieldsIf_load_mid (by kernel_rfl) 43 _ rfl w.heap.size 0 rfl [.bool n.1, .slice va n.2.1.length vc, .int .i64 n.2.2] _ (fun W hW => rng3 hW.1) Tryz.underlying43 rfl (by kernel_rfl)) (by assumption) ?_
    try simp only [Act.put, List.getElem_toArray, List.getElem_cons_zero, List.getElem_cons_succ, List.setIfInBounds_toArray, List.set_cons_zero, List.set_cons_succ]
    refine wpAnyH_take (i := 7) (v := (.slice (some ⟨w.heap.size + 1 + 1, 0, none⟩) 24 24)) rfl (by kernel_rfl) (by kernel_rfl) (by kernel_rfl) (fun _ _ _ h => h) (Or.inl ⟨by kernel_rfl, fun w' hSw => (by go_simp)⟩) (by assumption) ?_
    try simp only [Act.put, List.getElem_toArray, List.getElem_cons_zero, List.getElem_cons_succ, List.setIfInBounds_toArray, List.set_cons_zero, List.set_cons_succ]
    refine wpAnyH_take (i := 8) (v := (.int .i64 13)) rfl (by kernel_rfl) (by kernel_rfl) (by kernel_rfl) (fun _ _ _ h => h) (Or.inl ⟨by kernel_rfl, fun w' hSw => (by go_simp)⟩) (by assumption) ?_
    try simp only [Act.put, List.getElem_toArray, List.getElem_cons_zero, List.getElem_cons_succ, List.setIfInBounds_toArray, List.set_cons_zero, List.set_cons_succ]
    refine wpAnyH_take (i := 9) (v := (.pointer (some ⟨w.heap.size + 1 + 1, 13, none⟩))) rfl (by kernel_rfl) (by kernel_rfl) (by kernel_rfl) (fun _ _ _ h => h) (Or.inl ⟨by kernel_rfl, fun w' hSw => (by go_simp)⟩) (by assumption) ?_
    try simp only [Act.put, List.getElem_toArray, List.getElem_cons_zero, List.getElem_cons_succ, List.setIfInBounds_toArray, List.set_cons_zero, List.set_cons_succ]
    refine wpAnyH_take (i := 10) (v := (.string ⟨#[45, 49]⟩)) rfl (by kernel_rfl) (by kernel_rfl) (by kernel_rfl) (fun _ _ _ h => h) (Or.inl ⟨by kernel_rfl, fun w' hSw => (by have hc : w'.cell? ⟨w.heap.size + 1 + 1, 13, none⟩ = some (.string ⟨#[45, 49]⟩) := row_cell hSw.2.2; go_simp)⟩) (by assumption) ?_
    try simp only [Act.put, List.getElem_toArray, List.getElem_cons_zero, List.getElem_cons_succ, List.setIfInBounds_toArray, List.set_cons_zero, List.set_cons_succ]
    refine wpAnyH_ready (rs := [11]) (by kernel_rfl) (by simp) ?_
    refine AllReadyH.cons rfl (fun K hK => ?_) AllReadyH.nil
    go_simp
    refine Calls.mono (bound_r (n := (true, [1], 0)) ⟨#[45, 49]⟩ _ (by decide) pb1) ?_
    rintro e w9 ⟨rv, rfl, hb9, hrv⟩
    have hbb := HB.out.trans (hb9.mono HB.out.size)
    have hS9 := HK.out _ hbb
    clear HB hHeld
    have HB : Hid _ := hbb
    have HRV : Hid _ := hrv
    clear hbb hb9 hrv
    go_wp2_with fail
    refine hK.out _ _ hS9 (fun hHeld => ?_)
    clear hK K hS9
    try simp only [Act.put, List.getElem_toArray, List.getElem_cons_zero, List.getElem_cons_succ, List.setIfInBounds_toArray, List.set_cons_zero, List.set_cons_succ]
    refine wpAnyH_ready (rs := [12]) (by kernel_rfl) (by simp) ?_
    refine AllReadyH.cons rfl (fun K hK => ?_) AllReadyH.nil
    go_simp
    have hcr := Dc.cmp_r (HN.out _ HB.out) HRV.out
    refine Calls.mono hcr ?_
    clear hcr
    rintro e w9 ⟨rfl, hb9⟩
    have hbb := HB.out.trans (hb9.mono HB.out.size)
    have hS9 := HK.out _ hbb
    clear HB hHeld
    have HB : Hid _ := hbb
    clear hbb hb9
    rw [HCh]
    go_wp2_with fail
    refine hK.out _ _ hS9 (fun hHeld => ?_)
    clear hK K hS9
    try simp only [Act.put, List.getElem_toArray, List.getElem_cons_zero, List.getElem_cons_succ, List.setIfInBounds_toArray, List.set_cons_zero, List.set_cons_succ]
    refine wpAnyH_take (i := 13) (v := (.bool false)) rfl (by kernel_rfl) (by kernel_rfl) (by kernel_rfl) (fun _ _ _ h => h) (Or.inl ⟨by kernel_rfl, fun w' hSw => (by go_simp)⟩) (by assumption) ?_
    try simp only [Act.put, List.getElem_toArray, List.getElem_cons_zero, List.getElem_cons_succ, List.setIfInBounds_toArray, List.set_cons_zero, List.set_cons_succ]
    refine wpAnyH_take (i := 14) (v := (.bool false)) rfl (by kernel_rfl) (by kernel_rfl) (by kernel_rfl) (fun _ _ _ h => h) (Or.inl ⟨by kernel_rfl, fun w' hSw => (by go_simp)⟩) (by assumption) ?_
    try simp only [Act.put, List.getElem_toArray, List.getElem_cons_zero, List.getElem_cons_succ, List.setIfInBounds_toArray, List.set_cons_zero, List.set_cons_succ]
    refine wpAnyH_take (i := 15) (v := (.bool false)) rfl (by kernel_rfl) (by kernel_rfl) (by kernel_rfl) (fun _ _ _ h => h) (Or.inl ⟨by kernel_rfl, fun w' hSw => (by go_simp)⟩) (by assumption) ?_
    try simp only [Act.put, List.getElem_toArray, List.getElem_cons_zero, List.getElem_cons_succ, List.setIfInBounds_toArray, List.set_cons_zero, List.set_cons_succ]
    refine wpAnyH_done (by kernel_rfl) ?_ _
    go_wp2_with fail
    go_ret
    exact ⟨ret_b HE.out.symm, HU.out.trans (HB.out.mono HU.out.size)⟩
set_option maxRecDepth 100000 in
set_option maxHeartbeats 6400000 in
theorem within_14 {w : World} {v : Value} {n : Dc.Nm} (hn : Dc.NmR w v n) (h0 : n.2.2 = 0) : Calls Tryz.prog 43 #[.int .i64 14, Dc.nmV n.1 v n.2.2] w fun e w' => e = .returned (.bool (wiB 14 (Dc.nv n 0))) ∧ Below w.heap.size w w' := by
  have hl := (cmp_whole hn.cn h0 pb0c rfl).1
  rw [pb0v] at hl
  have HW : Hid ((Dc.cmpS n (false, [0], 0) < 0 ↔ Dc.nv n 0 < 0) ∧ True) := ⟨hl, trivial⟩
  clear hl
  obtain ⟨va, vc, rfl, _⟩ := hn.bt.form
  have hx := M.nw_heap w (.cells #[.bool n.1, .slice va n.2.1.length vc, .int .i64 n.2.2] 43)
  have hb1 : Below w.heap.size w (((w.alloc (.cells #[.bool n.1, .slice va n.2.1.length vc, .int .i64 n.2.2] 43)).alloc (.cells loT 9)).alloc (.cells hiT 9)) := bel3 w _ _ _
  have hS := blocks3 w (.cells #[.bool n.1, .slice va n.2.1.length vc, .int .i64 n.2.2] 43) (.cells loT 9) (.cells hiT 9)
  obtain ⟨U, hU⟩ : ∃ U, ((w.alloc (.cells #[.bool n.1, .slice va n.2.1.length vc, .int .i64 n.2.2] 43)).alloc (.cells loT 9)).alloc (.cells hiT 9) = U := ⟨_, rfl⟩
  rw [hU] at hb1 hS
  have HN : Hid _ := fun W (hW : Below U.heap.size U W) => hn.below (hb1.trans (hW.mono hb1.size))
  have HK : Hid (∀ W, Below U.heap.size U W → _ ∧ _ ∧ _) := fun W hW => And.intro ((hW.block _ (Dc.lt_of hS.1)).trans hS.1) (And.intro ((hW.block _ (Dc.lt_of hS.2.1)).trans hS.2.1) ((hW.block _ (Dc.lt_of hS.2.2)).trans hS.2.2))
  have HU : Hid _ := hb1
  clear hx hb1 hS hn h0
  obtain ⟨c, HCl⟩ : ∃ c, Dc.cmpS n (false, [0], 0) = c := ⟨_, rfl⟩
  go_enter Tryz.func43, Tryz.ntmps43
  go_upto_region 3 with fail
  try rw [show ((w.alloc (.cells #[.bool n.1, .slice va n.2.1.length vc, .int .i64 n.2.2] 43)).alloc (.cells #[.string ⟨#[]⟩, .string ⟨#[]⟩, .string ⟨#[]⟩, .string ⟨#[]⟩, .string ⟨#[]⟩, .string ⟨#[]⟩, .string ⟨#[]⟩, .string ⟨#[]⟩, .string ⟨#[]⟩, .string ⟨#[]⟩, .string ⟨#[]⟩, .string ⟨#[]⟩, .string ⟨#[]⟩, .string ⟨#[]⟩, .string ⟨#[48]⟩, .string ⟨#[49]⟩, .string ⟨#[45, 57, 50, 50, 51, 51, 55, 50, 48, 51, 54, 56, 53, 52, 55, 55, 53, 56, 48, 56]⟩, .string ⟨#[45, 50, 49, 52, 55, 52, 56, 51, 54, 52, 56]⟩, .string ⟨#[45, 51, 50, 55, 54, 56]⟩, .string ⟨#[45, 49, 50, 56]⟩, .string ⟨#[48]⟩, .string ⟨#[48]⟩, .string ⟨#[48]⟩, .string ⟨#[48]⟩] 9)).alloc (.cells #[.string ⟨#[]⟩, .string ⟨#[]⟩, .string ⟨#[]⟩, .string ⟨#[]⟩, .string ⟨#[]⟩, .string ⟨#[]⟩, .string ⟨#[]⟩, .string ⟨#[]⟩, .string ⟨#[]⟩, .string ⟨#[]⟩, .string ⟨#[]⟩, .string ⟨#[]⟩, .string ⟨#[48]⟩, .string ⟨#[45, 49]⟩, .string ⟨#[]⟩, .string ⟨#[]⟩, .string ⟨#[57, 50, 50, 51, 51, 55, 50, 48, 51, 54, 56, 53, 52, 55, 55, 53, 56, 48, 55]⟩, .string ⟨#[50, 49, 52, 55, 52, 56, 51, 54, 52, 55]⟩, .string ⟨#[51, 50, 55, 54, 55]⟩, .string ⟨#[49, 50, 55]⟩, .string ⟨#[49, 56, 52, 52, 54, 55, 52, 52, 48, 55, 51, 55, 48, 57, 53, 53, 49, 54, 49, 53]⟩, .string ⟨#[52, 50, 57, 52, 57, 54, 55, 50, 57, 53]⟩, .string ⟨#[54, 53, 53, 51, 53]⟩, .string ⟨#[50, 53, 53]⟩] 9) = U from hU]
  clear hU
  have HB : Hid (Below U.heap.size U U.drew) := Dc.Below.drewN' 1
  by_cases hc : c < 0
  · have hcd : decide (c < 0) = true := by simpa using hc
    have HE : Hid (wiB 14 (Dc.nv n 0) = false) := by
      show _ = _
      have := HW.out.1
      rw [HCl] at this
      unfold wiB
      simp
      omega
    clear hc
    refine wp_region_held_drew (S := fun W => W.heap[w.heap.size]? = some (.cells #[.bool n.1, .slice va n.2.1.length vc, .int .i64 n.2.2] 43 (0, 0)) ∧ W.heap[w.heap.size + 1]? = some (.cells loT 9 (0, 0)) ∧ W.heap[w.heap.size + 1 + 1]? = some (.cells hiT 9 (0, 0))) (by kernel_rfl) (HK.out _ HB.out) (fun hHeld => ?_)
    refine wpAnyH_take (i := 0) (v := (.slice (some ⟨w.heap.size + 1, 0, none⟩) 24 24)) rfl (by kernel_rfl) (by kernel_rfl) (by kernel_rfl) (fun _ _ _ h => h) (Or.inl ⟨by kernel_rfl, fun w' hSw => (by go_simp)⟩) (by assumption) ?_
    try simp only [Act.put, List.getElem_toArray, List.getElem_cons_zero, List.getElem_cons_succ, List.setIfInBounds_toArray, List.set_cons_zero, List.set_cons_succ]
    refine wpAnyH_take (i := 1) (v := (.int .i64 14)) rfl (by kernel_rfl) (by kernel_rfl) (by kernel_rfl) (fun _ _ _ h => h) (Or.inl ⟨by kernel_rfl, fun w' hSw => (by go_simp)⟩) (by assumption) ?_
    try simp only [Act.put, List.getElem_toArray, List.getElem_cons_zero, List.getElem_cons_succ, List.setIfInBounds_toArray, List.set_cons_zero, List.set_cons_succ]
    refine wpAnyH_take (i := 2) (v := (.pointer (some ⟨w.heap.size + 1, 14, none⟩))) rfl (by kernel_rfl) (by kernel_rfl) (by kernel_rfl) (fun _ _ _ h => h) (Or.inl ⟨by kernel_rfl, fun w' hSw => (by go_simp)⟩) (by assumption) ?_
    try simp only [Act.put, List.getElem_toArray, List.getElem_cons_zero, List.getElem_cons_succ, List.setIfInBounds_toArray, List.set_cons_zero, List.set_cons_succ]
    refine wpAnyH_take (i := 3) (v := (.string ⟨#[48]⟩)) rfl (by kernel_rfl) (by kernel_rfl) (by kernel_rfl) (fun _ _ _ h => h) (Or.inl ⟨by kernel_rfl, fun w' hSw => (by have hc : w'.cell? ⟨w.heap.size + 1, 14, none⟩ = some (.string ⟨#[48]⟩) := row_cell hSw.2.1; go_simp)⟩) (by assumption) ?_
    try simp only [Act.put, List.getElem_toArray, List.getElem_cons_zero, List.getElem_cons_succ, List.setIfInBounds_toArray, List.set_cons_zero, List.set_cons_succ]
    refine wpAnyH_take (i := 4) (v := (.bool true)) rfl (by kernel_rfl) (by kernel_rfl) (by kernel_rfl) (fun _ _ _ h => h) (Or.inl ⟨by kernel_rfl, fun w' hSw => (by go_simp)⟩) (by assumption) ?_
    try simp only [Act.put, List.getElem_toArray, List.getElem_cons_zero, List.getElem_cons_succ, List.setIfInBounds_toArray, List.set_cons_zero, List.set_cons_succ]
    refine wpAnyH_take (i := 5) (v := (.bool true)) rfl (by kernel_rfl) (by kernel_rfl) (by kernel_rfl) (fun _ _ _ h => h) (Or.inl ⟨by kernel_rfl, fun w' hSw => (by go_simp)⟩) (by assumption) ?_
    try simp only [Act.put, List.getElem_toArray, List.getElem_cons_zero, List.getElem_cons_succ, List.setIfInBounds_toArray, List.set_cons_zero, List.set_cons_succ]
    refine wpAnyH_take (i := 6) (v := (.agg #[.bool n.1, .slice va n.2.1.length vc, .int .i64 n.2.2])) rfl (by kernel_rfl) (by kernel_rfl) (by kernel_rfl) (fun _ _ _ h => h) (yieldsIf_load_mid (by kernel_rfl) 43 _ rfl w.heap.size 0 rfl [.bool n.1, .slice va n.2.1.length vc, .int .i64 n.2.2] _ (fun W hW => rng3 hW.1) Tryz.underlying43 rfl (by kernel_rfl)) (by assumption) ?_
    try simp only [Act.put, List.getElem_toArray, List.getElem_cons_zero, List.getElem_cons_succ, List.setIfInBounds_toArray, List.set_cons_zero, List.set_cons_succ]
    refine wpAnyH_take (i := 7) (v := (.slice (some ⟨w.heap.size + 1, 0, none⟩) 24 24)) rfl (by kernel_rfl) (by kernel_rfl) (by kernel_rfl) (fun _ _ _ h => h) (Or.inl ⟨by kernel_rfl, fun w' hSw => (by go_simp)⟩) (by assumption) ?_
    try simp only [Act.put, List.getElem_toArray, List.getElem_cons_zero, List.getElem_cons_succ, List.setIfInBounds_toArray, List.set_cons_zero, List.set_cons_succ]
    refine wpAnyH_take (i := 8) (v := (.int .i64 14)) rfl (by kernel_rfl) (by kernel_rfl) (by kernel_rfl) (fun _ _ _ h => h) (Or.inl ⟨by kernel_rfl, fun w' hSw => (by go_simp)⟩) (by assumption) ?_
    try simp only [Act.put, List.getElem_toArray, List.getElem_cons_zero, List.getElem_cons_succ, List.setIfInBounds_toArray, List.set_cons_zero, List.set_cons_succ]
    refine wpAnyH_take (i := 9) (v := (.pointer (some ⟨w.heap.size + 1, 14, none⟩))) rfl (by kernel_rfl) (by kernel_rfl) (by kernel_rfl) (fun _ _ _ h => h) (Or.inl ⟨by kernel_rfl, fun w' hSw => (by go_simp)⟩) (by assumption) ?_
    try simp only [Act.put, List.getElem_toArray, List.getElem_cons_zero, List.getElem_cons_succ, List.setIfInBounds_toArray, List.set_cons_zero, List.set_cons_succ]
    refine wpAnyH_take (i := 10) (v := (.string ⟨#[48]⟩)) rfl (by kernel_rfl) (by kernel_rfl) (by kernel_rfl) (fun _ _ _ h => h) (Or.inl ⟨by kernel_rfl, fun w' hSw => (by have hc : w'.cell? ⟨w.heap.size + 1, 14, none⟩ = some (.string ⟨#[48]⟩) := row_cell hSw.2.1; go_simp)⟩) (by assumption) ?_
    try simp only [Act.put, List.getElem_toArray, List.getElem_cons_zero, List.getElem_cons_succ, List.setIfInBounds_toArray, List.set_cons_zero, List.set_cons_succ]
    refine wpAnyH_ready (rs := [11]) (by kernel_rfl) (by simp) ?_
    refine AllReadyH.cons rfl (fun K hK => ?_) AllReadyH.nil
    go_simp
    refine Calls.mono (bound_r (n := (false, [0], 0)) ⟨#[48]⟩ _ (by decide) pb0) ?_
    rintro e w9 ⟨rv, rfl, hb9, hrv⟩
    have hbb := HB.out.trans (hb9.mono HB.out.size)
    have hS9 := HK.out _ hbb
    clear HB hHeld
    have HB : Hid _ := hbb
    have HRV : Hid _ := hrv
    clear hbb hb9 hrv
    go_wp2_with fail
    refine hK.out _ _ hS9 (fun hHeld => ?_)
    clear hK K hS9
    try simp only [Act.put, List.getElem_toArray, List.getElem_cons_zero, List.getElem_cons_succ, List.setIfInBounds_toArray, List.set_cons_zero, List.set_cons_succ]
    refine wpAnyH_ready (rs := [12]) (by kernel_rfl) (by simp) ?_
    refine AllReadyH.cons rfl (fun K hK => ?_) AllReadyH.nil
    go_simp
    have hcr := Dc.cmp_r (HN.out _ HB.out) HRV.out
    refine Calls.mono hcr ?_
    clear hcr
    rintro e w9 ⟨rfl, hb9⟩
    have hbb := HB.out.trans (hb9.mono HB.out.size)
    have hS9 := HK.out _ hbb
    clear HB hHeld
    have HB : Hid _ := hbb
    clear hbb hb9
    rw [HCl]
    go_wp2_with fail
    refine hK.out _ _ hS9 (fun hHeld => ?_)
    clear hK K hS9
    try simp only [Act.put, List.getElem_toArray, List.getElem_cons_zero, List.getElem_cons_succ, List.setIfInBounds_toArray, List.set_cons_zero, List.set_cons_succ]
    refine wpAnyH_take (i := 13) (v := (.bool true)) rfl (by kernel_rfl) (by kernel_rfl) (by kernel_rfl) (fun _ _ _ h => h) (Or.inl ⟨by kernel_rfl, fun w' hSw => (by go_simp)⟩) (by assumption) ?_
    try simp only [Act.put, List.getElem_toArray, List.getElem_cons_zero, List.getElem_cons_succ, List.setIfInBounds_toArray, List.set_cons_zero, List.set_cons_succ]
    refine wpAnyH_take (i := 14) (v := (.bool true)) rfl (by kernel_rfl) (by kernel_rfl) (by kernel_rfl) (fun _ _ _ h => h) (Or.inl ⟨by kernel_rfl, fun w' hSw => (by go_simp)⟩) (by assumption) ?_
    try simp only [Act.put, List.getElem_toArray, List.getElem_cons_zero, List.getElem_cons_succ, List.setIfInBounds_toArray, List.set_cons_zero, List.set_cons_succ]
    refine wpAnyH_done (by kernel_rfl) ?_ _
    clear hHeld
    go_wp2_with fail
    go_ret
    exact ⟨ret_b HE.out.symm, HU.out.trans (HB.out.mono HU.out.size)⟩
  have hcd : decide (c < 0) = false := by simpa using hc
  have HCN : Hid (¬ c < 0) := hc
  clear hc
  refine wp_region_held_drew (S := fun W => W.heap[w.heap.size]? = some (.cells #[.bool n.1, .slice va n.2.1.length vc, .int .i64 n.2.2] 43 (0, 0)) ∧ W.heap[w.heap.size + 1]? = some (.cells loT 9 (0, 0)) ∧ W.heap[w.heap.size + 1 + 1]? = some (.cells hiT 9 (0, 0))) (by kernel_rfl) (HK.out _ HB.out) (fun hHeld => ?_)
  refine wpAnyH_take (i := 0) (v := (.slice (some ⟨w.heap.size + 1, 0, none⟩) 24 24)) rfl (by kernel_rfl) (by kernel_rfl) (by kernel_rfl) (fun _ _ _ h => h) (Or.inl ⟨by kernel_rfl, fun w' hSw => (by go_simp)⟩) (by assumption) ?_
  try simp only [Act.put, List.getElem_toArray, List.getElem_cons_zero, List.getElem_cons_succ, List.setIfInBounds_toArray, List.set_cons_zero, List.set_cons_succ]
  refine wpAnyH_take (i := 1) (v := (.int .i64 14)) rfl (by kernel_rfl) (by kernel_rfl) (by kernel_rfl) (fun _ _ _ h => h) (Or.inl ⟨by kernel_rfl, fun w' hSw => (by go_simp)⟩) (by assumption) ?_
  try simp only [Act.put, List.getElem_toArray, List.getElem_cons_zero, List.getElem_cons_succ, List.setIfInBounds_toArray, List.set_cons_zero, List.set_cons_succ]
  refine wpAnyH_take (i := 2) (v := (.pointer (some ⟨w.heap.size + 1, 14, none⟩))) rfl (by kernel_rfl) (by kernel_rfl) (by kernel_rfl) (fun _ _ _ h => h) (Or.inl ⟨by kernel_rfl, fun w' hSw => (by go_simp)⟩) (by assumption) ?_
  try simp only [Act.put, List.getElem_toArray, List.getElem_cons_zero, List.getElem_cons_succ, List.setIfInBounds_toArray, List.set_cons_zero, List.set_cons_succ]
  refine wpAnyH_take (i := 3) (v := (.string ⟨#[48]⟩)) rfl (by kernel_rfl) (by kernel_rfl) (by kernel_rfl) (fun _ _ _ h => h) (Or.inl ⟨by kernel_rfl, fun w' hSw => (by have hc : w'.cell? ⟨w.heap.size + 1, 14, none⟩ = some (.string ⟨#[48]⟩) := row_cell hSw.2.1; go_simp)⟩) (by assumption) ?_
  try simp only [Act.put, List.getElem_toArray, List.getElem_cons_zero, List.getElem_cons_succ, List.setIfInBounds_toArray, List.set_cons_zero, List.set_cons_succ]
  refine wpAnyH_take (i := 4) (v := (.bool true)) rfl (by kernel_rfl) (by kernel_rfl) (by kernel_rfl) (fun _ _ _ h => h) (Or.inl ⟨by kernel_rfl, fun w' hSw => (by go_simp)⟩) (by assumption) ?_
  try simp only [Act.put, List.getElem_toArray, List.getElem_cons_zero, List.getElem_cons_succ, List.setIfInBounds_toArray, List.set_cons_zero, List.set_cons_succ]
  refine wpAnyH_take (i := 5) (v := (.bool true)) rfl (by kernel_rfl) (by kernel_rfl) (by kernel_rfl) (fun _ _ _ h => h) (Or.inl ⟨by kernel_rfl, fun w' hSw => (by go_simp)⟩) (by assumption) ?_
  try simp only [Act.put, List.getElem_toArray, List.getElem_cons_zero, List.getElem_cons_succ, List.setIfInBounds_toArray, List.set_cons_zero, List.set_cons_succ]
  refine wpAnyH_take (i := 6) (v := (.agg #[.bool n.1, .slice va n.2.1.length vc, .int .i64 n.2.2])) rfl (by kernel_rfl) (by kernel_rfl) (by kernel_rfl) (fun _ _ _ h => h) (yieldsIf_load_mid (by kernel_rfl) 43 _ rfl w.heap.size 0 rfl [.bool n.1, .slice va n.2.1.length vc, .int .i64 n.2.2] _ (fun W hW => rng3 hW.1) Tryz.underlying43 rfl (by kernel_rfl)) (by assumption) ?_
  try simp only [Act.put, List.getElem_toArray, List.getElem_cons_zero, List.getElem_cons_succ, List.setIfInBounds_toArray, List.set_cons_zero, List.set_cons_succ]
  refine wpAnyH_take (i := 7) (v := (.slice (some ⟨w.heap.size + 1, 0, none⟩) 24 24)) rfl (by kernel_rfl) (by kernel_rfl) (by kernel_rfl) (fun _ _ _ h => h) (Or.inl ⟨by kernel_rfl, fun w' hSw => (by go_simp)⟩) (by assumption) ?_
  try simp only [Act.put, List.getElem_toArray, List.getElem_cons_zero, List.getElem_cons_succ, List.setIfInBounds_toArray, List.set_cons_zero, List.set_cons_succ]
  refine wpAnyH_take (i := 8) (v := (.int .i64 14)) rfl (by kernel_rfl) (by kernel_rfl) (by kernel_rfl) (fun _ _ _ h => h) (Or.inl ⟨by kernel_rfl, fun w' hSw => (by go_simp)⟩) (by assumption) ?_
  try simp only [Act.put, List.getElem_toArray, List.getElem_cons_zero, List.getElem_cons_succ, List.setIfInBounds_toArray, List.set_cons_zero, List.set_cons_succ]
  refine wpAnyH_take (i := 9) (v := (.pointer (some ⟨w.heap.size + 1, 14, none⟩))) rfl (by kernel_rfl) (by kernel_rfl) (by kernel_rfl) (fun _ _ _ h => h) (Or.inl ⟨by kernel_rfl, fun w' hSw => (by go_simp)⟩) (by assumption) ?_
  try simp only [Act.put, List.getElem_toArray, List.getElem_cons_zero, List.getElem_cons_succ, List.setIfInBounds_toArray, List.set_cons_zero, List.set_cons_succ]
  refine wpAnyH_take (i := 10) (v := (.string ⟨#[48]⟩)) rfl (by kernel_rfl) (by kernel_rfl) (by kernel_rfl) (fun _ _ _ h => h) (Or.inl ⟨by kernel_rfl, fun w' hSw => (by have hc : w'.cell? ⟨w.heap.size + 1, 14, none⟩ = some (.string ⟨#[48]⟩) := row_cell hSw.2.1; go_simp)⟩) (by assumption) ?_
  try simp only [Act.put, List.getElem_toArray, List.getElem_cons_zero, List.getElem_cons_succ, List.setIfInBounds_toArray, List.set_cons_zero, List.set_cons_succ]
  refine wpAnyH_ready (rs := [11]) (by kernel_rfl) (by simp) ?_
  refine AllReadyH.cons rfl (fun K hK => ?_) AllReadyH.nil
  go_simp
  refine Calls.mono (bound_r (n := (false, [0], 0)) ⟨#[48]⟩ _ (by decide) pb0) ?_
  rintro e w9 ⟨rv, rfl, hb9, hrv⟩
  have hbb := HB.out.trans (hb9.mono HB.out.size)
  have hS9 := HK.out _ hbb
  clear HB hHeld
  have HB : Hid _ := hbb
  have HRV : Hid _ := hrv
  clear hbb hb9 hrv
  go_wp2_with fail
  refine hK.out _ _ hS9 (fun hHeld => ?_)
  clear hK K hS9
  try simp only [Act.put, List.getElem_toArray, List.getElem_cons_zero, List.getElem_cons_succ, List.setIfInBounds_toArray, List.set_cons_zero, List.set_cons_succ]
  refine wpAnyH_ready (rs := [12]) (by kernel_rfl) (by simp) ?_
  refine AllReadyH.cons rfl (fun K hK => ?_) AllReadyH.nil
  go_simp
  have hcr := Dc.cmp_r (HN.out _ HB.out) HRV.out
  refine Calls.mono hcr ?_
  clear hcr
  rintro e w9 ⟨rfl, hb9⟩
  have hbb := HB.out.trans (hb9.mono HB.out.size)
  have hS9 := HK.out _ hbb
  clear HB hHeld
  have HB : Hid _ := hbb
  clear hbb hb9
  rw [HCl]
  go_wp2_with fail
  refine hK.out _ _ hS9 (fun hHeld => ?_)
  clear hK K hS9
  try simp only [Act.put, List.getElem_toArray, List.getElem_cons_zero, List.getElem_cons_succ, List.setIfInBounds_toArray, List.set_cons_zero, List.set_cons_succ]
  refine wpAnyH_take (i := 13) (v := (.bool false)) rfl (by kernel_rfl) (by kernel_rfl) (by kernel_rfl) (fun _ _ _ h => h) (Or.inl ⟨by kernel_rfl, fun w' hSw => (by go_simp)⟩) (by assumption) ?_
  try simp only [Act.put, List.getElem_toArray, List.getElem_cons_zero, List.getElem_cons_succ, List.setIfInBounds_toArray, List.set_cons_zero, List.set_cons_succ]
  refine wpAnyH_take (i := 14) (v := (.bool false)) rfl (by kernel_rfl) (by kernel_rfl) (by kernel_rfl) (fun _ _ _ h => h) (Or.inl ⟨by kernel_rfl, fun w' hSw => (by go_simp)⟩) (by assumption) ?_
  try simp only [Act.put, List.getElem_toArray, List.getElem_cons_zero, List.getElem_cons_succ, List.setIfInBounds_toArray, List.set_cons_zero, List.set_cons_succ]
  refine wpAnyH_done (by kernel_rfl) ?_ _
  clear hHeld HRV
  go_upto_region 5 with fail
  have HE : Hid (wiB 14 (Dc.nv n 0) = true) := by
    show _ = _
    have := HW.out.1
    rw [HCl] at this
    have := HCN.out
    unfold wiB
    simp
    omega
  have HB1 : Hid _ := HB.out
  clear HB
  have HB : Hid (Below U.heap.size U w9.drew) := HB1.out.trans ((Dc.Below.drewN' 1).mono HB1.out.size)
  refine wp_region_held_drew (S := fun W => W.heap[w.heap.size]? = some (.cells #[.bool n.1, .slice va n.2.1.length vc, .int .i64 n.2.2] 43 (0, 0)) ∧ W.heap[w.heap.size + 1]? = some (.cells loT 9 (0, 0)) ∧ W.heap[w.heap.size + 1 + 1]? = some (.cells hiT 9 (0, 0))) (by kernel_rfl) (HK.out _ HB.out) (fun hHeld => ?_)
  refine wpAnyH_take (i := 0) (v := (.slice (some ⟨w.heap.size + 1 + 1, 0, none⟩) 24 24)) rfl (by kernel_rfl) (by kernel_rfl) (by kernel_rfl) (fun _ _ _ h => h) (Or.inl ⟨by kernel_rfl, fun w' hSw => (by go_simp)⟩) (by assumption) ?_
  try simp only [Act.put, List.getElem_toArray, List.getElem_cons_zero, List.getElem_cons_succ, List.setIfInBounds_toArray, List.set_cons_zero, List.set_cons_succ]
  refine wpAnyH_take (i := 1) (v := (.int .i64 14)) rfl (by kernel_rfl) (by kernel_rfl) (by kernel_rfl) (fun _ _ _ h => h) (Or.inl ⟨by kernel_rfl, fun w' hSw => (by go_simp)⟩) (by assumption) ?_
  try simp only [Act.put, List.getElem_toArray, List.getElem_cons_zero, List.getElem_cons_succ, List.setIfInBounds_toArray, List.set_cons_zero, List.set_cons_succ]
  refine wpAnyH_take (i := 2) (v := (.pointer (some ⟨w.heap.size + 1 + 1, 14, none⟩))) rfl (by kernel_rfl) (by kernel_rfl) (by kernel_rfl) (fun _ _ _ h => h) (Or.inl ⟨by kernel_rfl, fun w' hSw => (by go_simp)⟩) (by assumption) ?_
  try simp only [Act.put, List.getElem_toArray, List.getElem_cons_zero, List.getElem_cons_succ, List.setIfInBounds_toArray, List.set_cons_zero, List.set_cons_succ]
  refine wpAnyH_take (i := 3) (v := (.string ⟨#[]⟩)) rfl (by kernel_rfl) (by kernel_rfl) (by kernel_rfl) (fun _ _ _ h => h) (Or.inl ⟨by kernel_rfl, fun w' hSw => (by have hc : w'.cell? ⟨w.heap.size + 1 + 1, 14, none⟩ = some (.string ⟨#[]⟩) := row_cell hSw.2.2; go_simp)⟩) (by assumption) ?_
  try simp only [Act.put, List.getElem_toArray, List.getElem_cons_zero, List.getElem_cons_succ, List.setIfInBounds_toArray, List.set_cons_zero, List.set_cons_succ]
  refine wpAnyH_take (i := 4) (v := (.bool true)) rfl (by kernel_rfl) (by kernel_rfl) (by kernel_rfl) (fun _ _ _ h => h) (Or.inl ⟨by kernel_rfl, fun w' hSw => (by go_simp)⟩) (by assumption) ?_
  try simp only [Act.put, List.getElem_toArray, List.getElem_cons_zero, List.getElem_cons_succ, List.setIfInBounds_toArray, List.set_cons_zero, List.set_cons_succ]
  refine wpAnyH_take (i := 5) (v := (.bool true)) rfl (by kernel_rfl) (by kernel_rfl) (by kernel_rfl) (fun _ _ _ h => h) (Or.inl ⟨by kernel_rfl, fun w' hSw => (by go_simp)⟩) (by assumption) ?_
  try simp only [Act.put, List.getElem_toArray, List.getElem_cons_zero, List.getElem_cons_succ, List.setIfInBounds_toArray, List.set_cons_zero, List.set_cons_succ]
  refine wpAnyH_take (i := 6) (v := (undef)) rfl (by kernel_rfl) (by kernel_rfl) (by kernel_rfl) (fun _ _ _ h => h) (Or.inr ⟨by kernel_rfl, rfl⟩) (by assumption) ?_
  try simp only [Act.put, List.getElem_toArray, List.getElem_cons_zero, List.getElem_cons_succ, List.setIfInBounds_toArray, List.set_cons_zero, List.set_cons_succ]
  refine wpAnyH_take (i := 7) (v := (undef)) rfl (by kernel_rfl) (by kernel_rfl) (by kernel_rfl) (fun _ _ _ h => h) (Or.inr ⟨by kernel_rfl, rfl⟩) (by assumption) ?_
  try simp only [Act.put, List.getElem_toArray, List.getElem_cons_zero, List.getElem_cons_succ, List.setIfInBounds_toArray, List.set_cons_zero, List.set_cons_succ]
  refine wpAnyH_take (i := 8) (v := (undef)) rfl (by kernel_rfl) (by kernel_rfl) (by kernel_rfl) (fun _ _ _ h => h) (Or.inr ⟨by kernel_rfl, rfl⟩) (by assumption) ?_
  try simp only [Act.put, List.getElem_toArray, List.getElem_cons_zero, List.getElem_cons_succ, List.setIfInBounds_toArray, List.set_cons_zero, List.set_cons_succ]
  refine wpAnyH_take (i := 9) (v := (undef)) rfl (by kernel_rfl) (by kernel_rfl) (by kernel_rfl) (fun _ _ _ h => h) (Or.inr ⟨by kernel_rfl, rfl⟩) (by assumption) ?_
  try simp only [Act.put, List.getElem_toArray, List.getElem_cons_zero, List.getElem_cons_succ, List.setIfInBounds_toArray, List.set_cons_zero, List.set_cons_succ]
  refine wpAnyH_take (i := 10) (v := (undef)) rfl (by kernel_rfl) (by kernel_rfl) (by kernel_rfl) (fun _ _ _ h => h) (Or.inr ⟨by kernel_rfl, rfl⟩) (by assumption) ?_
  try simp only [Act.put, List.getElem_toArray, List.getElem_cons_zero, List.getElem_cons_succ, List.setIfInBounds_toArray, List.set_cons_zero, List.set_cons_succ]
  refine wpAnyH_take (i := 11) (v := (undef)) rfl (by kernel_rfl) (by kernel_rfl) (by kernel_rfl) (fun _ _ _ h => h) (Or.inr ⟨by kernel_rfl, rfl⟩) (by assumption) ?_
  try simp only [Act.put, List.getElem_toArray, List.getElem_cons_zero, List.getElem_cons_succ, List.setIfInBounds_toArray, List.set_cons_zero, List.set_cons_succ]
  refine wpAnyH_take (i := 12) (v := (undef)) rfl (by kernel_rfl) (by kernel_rfl) (by kernel_rfl) (fun _ _ _ h => h) (Or.inr ⟨by kernel_rfl, rfl⟩) (by assumption) ?_
  try simp only [Act.put, List.getElem_toArray, List.getElem_cons_zero, List.getElem_cons_succ, List.setIfInBounds_toArray, List.set_cons_zero, List.set_cons_succ]
  refine wpAnyH_take (i := 13) (v := (undef)) rfl (by kernel_rfl) (by kernel_rfl) (by kernel_rfl) (fun _ _ _ h => h) (Or.inr ⟨by kernel_rfl, rfl⟩) (by assumption) ?_
  try simp only [Act.put, List.getElem_toArray, List.getElem_cons_zero, List.getElem_cons_succ, List.setIfInBounds_toArray, List.set_cons_zero, List.set_cons_succ]
  refine wpAnyH_take (i := 14) (v := (.bool true)) rfl (by kernel_rfl) (by kernel_rfl) (by kernel_rfl) (fun _ _ _ h => h) (Or.inl ⟨by kernel_rfl, fun w' hSw => (by go_simp)⟩) (by assumption) ?_
  try simp only [Act.put, List.getElem_toArray, List.getElem_cons_zero, List.getElem_cons_succ, List.setIfInBounds_toArray, List.set_cons_zero, List.set_cons_succ]
  refine wpAnyH_take (i := 15) (v := (.bool true)) rfl (by kernel_rfl) (by kernel_rfl) (by kernel_rfl) (fun _ _ _ h => h) (Or.inl ⟨by kernel_rfl, fun w' hSw => (by go_simp)⟩) (by assumption) ?_
  try simp only [Act.put, List.getElem_toArray, List.getElem_cons_zero, List.getElem_cons_succ, List.setIfInBounds_toArray, List.set_cons_zero, List.set_cons_succ]
  refine wpAnyH_done (by kernel_rfl) ?_ _
  go_wp2_with fail
  go_ret
  exact ⟨ret_b HE.out.symm, HU.out.trans (HB.out.mono HU.out.size)⟩
set_option maxRecDepth 100000 in
set_option maxHeartbeats 6400000 in
theorem within_15 {w : World} {v : Value} {n : Dc.Nm} (hn : Dc.NmR w v n) (h0 : n.2.2 = 0) : Calls Tryz.prog 43 #[.int .i64 15, Dc.nmV n.1 v n.2.2] w fun e w' => e = .returned (.bool (wiB 15 (Dc.nv n 0))) ∧ Below w.heap.size w w' := by
  have hl := (cmp_whole hn.cn h0 pb2c rfl).1
  rw [pb2v] at hl
  have HW : Hid ((Dc.cmpS n (false, [1], 0) < 0 ↔ Dc.nv n 0 < 1) ∧ True) := ⟨hl, trivial⟩
  clear hl
  obtain ⟨va, vc, rfl, _⟩ := hn.bt.form
  have hx := M.nw_heap w (.cells #[.bool n.1, .slice va n.2.1.length vc, .int .i64 n.2.2] 43)
  have hb1 : Below w.heap.size w (((w.alloc (.cells #[.bool n.1, .slice va n.2.1.length vc, .int .i64 n.2.2] 43)).alloc (.cells loT 9)).alloc (.cells hiT 9)) := bel3 w _ _ _
  have hS := blocks3 w (.cells #[.bool n.1, .slice va n.2.1.length vc, .int .i64 n.2.2] 43) (.cells loT 9) (.cells hiT 9)
  obtain ⟨U, hU⟩ : ∃ U, ((w.alloc (.cells #[.bool n.1, .slice va n.2.1.length vc, .int .i64 n.2.2] 43)).alloc (.cells loT 9)).alloc (.cells hiT 9) = U := ⟨_, rfl⟩
  rw [hU] at hb1 hS
  have HN : Hid _ := fun W (hW : Below U.heap.size U W) => hn.below (hb1.trans (hW.mono hb1.size))
  have HK : Hid (∀ W, Below U.heap.size U W → _ ∧ _ ∧ _) := fun W hW => And.intro ((hW.block _ (Dc.lt_of hS.1)).trans hS.1) (And.intro ((hW.block _ (Dc.lt_of hS.2.1)).trans hS.2.1) ((hW.block _ (Dc.lt_of hS.2.2)).trans hS.2.2))
  have HU : Hid _ := hb1
  clear hx hb1 hS hn h0
  obtain ⟨c, HCl⟩ : ∃ c, Dc.cmpS n (false, [1], 0) = c := ⟨_, rfl⟩
  go_enter Tryz.func43, Tryz.ntmps43
  go_upto_region 3 with fail
  try rw [show ((w.alloc (.cells #[.bool n.1, .slice va n.2.1.length vc, .int .i64 n.2.2] 43)).alloc (.cells #[.string ⟨#[]⟩, .string ⟨#[]⟩, .string ⟨#[]⟩, .string ⟨#[]⟩, .string ⟨#[]⟩, .string ⟨#[]⟩, .string ⟨#[]⟩, .string ⟨#[]⟩, .string ⟨#[]⟩, .string ⟨#[]⟩, .string ⟨#[]⟩, .string ⟨#[]⟩, .string ⟨#[]⟩, .string ⟨#[]⟩, .string ⟨#[48]⟩, .string ⟨#[49]⟩, .string ⟨#[45, 57, 50, 50, 51, 51, 55, 50, 48, 51, 54, 56, 53, 52, 55, 55, 53, 56, 48, 56]⟩, .string ⟨#[45, 50, 49, 52, 55, 52, 56, 51, 54, 52, 56]⟩, .string ⟨#[45, 51, 50, 55, 54, 56]⟩, .string ⟨#[45, 49, 50, 56]⟩, .string ⟨#[48]⟩, .string ⟨#[48]⟩, .string ⟨#[48]⟩, .string ⟨#[48]⟩] 9)).alloc (.cells #[.string ⟨#[]⟩, .string ⟨#[]⟩, .string ⟨#[]⟩, .string ⟨#[]⟩, .string ⟨#[]⟩, .string ⟨#[]⟩, .string ⟨#[]⟩, .string ⟨#[]⟩, .string ⟨#[]⟩, .string ⟨#[]⟩, .string ⟨#[]⟩, .string ⟨#[]⟩, .string ⟨#[48]⟩, .string ⟨#[45, 49]⟩, .string ⟨#[]⟩, .string ⟨#[]⟩, .string ⟨#[57, 50, 50, 51, 51, 55, 50, 48, 51, 54, 56, 53, 52, 55, 55, 53, 56, 48, 55]⟩, .string ⟨#[50, 49, 52, 55, 52, 56, 51, 54, 52, 55]⟩, .string ⟨#[51, 50, 55, 54, 55]⟩, .string ⟨#[49, 50, 55]⟩, .string ⟨#[49, 56, 52, 52, 54, 55, 52, 52, 48, 55, 51, 55, 48, 57, 53, 53, 49, 54, 49, 53]⟩, .string ⟨#[52, 50, 57, 52, 57, 54, 55, 50, 57, 53]⟩, .string ⟨#[54, 53, 53, 51, 53]⟩, .string ⟨#[50, 53, 53]⟩] 9) = U from hU]
  clear hU
  have HB : Hid (Below U.heap.size U U.drew) := Dc.Below.drewN' 1
  by_cases hc : c < 0
  · have hcd : decide (c < 0) = true := by simpa using hc
    have HE : Hid (wiB 15 (Dc.nv n 0) = false) := by
      show _ = _
      have := HW.out.1
      rw [HCl] at this
      unfold wiB
      simp
      omega
    clear hc
    refine wp_region_held_drew (S := fun W => W.heap[w.heap.size]? = some (.cells #[.bool n.1, .slice va n.2.1.length vc, .int .i64 n.2.2] 43 (0, 0)) ∧ W.heap[w.heap.size + 1]? = some (.cells loT 9 (0, 0)) ∧ W.heap[w.heap.size + 1 + 1]? = some (.cells hiT 9 (0, 0))) (by kernel_rfl) (HK.out _ HB.out) (fun hHeld => ?_)
    refine wpAnyH_take (i := 0) (v := (.slice (some ⟨w.heap.size + 1, 0, none⟩) 24 24)) rfl (by kernel_rfl) (by kernel_rfl) (by kernel_rfl) (fun _ _ _ h => h) (Or.inl ⟨by kernel_rfl, fun w' hSw => (by go_simp)⟩) (by assumption) ?_
    try simp only [Act.put, List.getElem_toArray, List.getElem_cons_zero, List.getElem_cons_succ, List.setIfInBounds_toArray, List.set_cons_zero, List.set_cons_succ]
    refine wpAnyH_take (i := 1) (v := (.int .i64 15)) rfl (by kernel_rfl) (by kernel_rfl) (by kernel_rfl) (fun _ _ _ h => h) (Or.inl ⟨by kernel_rfl, fun w' hSw => (by go_simp)⟩) (by assumption) ?_
    try simp only [Act.put, List.getElem_toArray, List.getElem_cons_zero, List.getElem_cons_succ, List.setIfInBounds_toArray, List.set_cons_zero, List.set_cons_succ]
    refine wpAnyH_take (i := 2) (v := (.pointer (some ⟨w.heap.size + 1, 15, none⟩))) rfl (by kernel_rfl) (by kernel_rfl) (by kernel_rfl) (fun _ _ _ h => h) (Or.inl ⟨by kernel_rfl, fun w' hSw => (by go_simp)⟩) (by assumption) ?_
    try simp only [Act.put, List.getElem_toArray, List.getElem_cons_zero, List.getElem_cons_succ, List.setIfInBounds_toArray, List.set_cons_zero, List.set_cons_succ]
    refine wpAnyH_take (i := 3) (v := (.string ⟨#[49]⟩)) rfl (by kernel_rfl) (by kernel_rfl) (by kernel_rfl) (fun _ _ _ h => h) (Or.inl ⟨by kernel_rfl, fun w' hSw => (by have hc : w'.cell? ⟨w.heap.size + 1, 15, none⟩ = some (.string ⟨#[49]⟩) := row_cell hSw.2.1; go_simp)⟩) (by assumption) ?_
    try simp only [Act.put, List.getElem_toArray, List.getElem_cons_zero, List.getElem_cons_succ, List.setIfInBounds_toArray, List.set_cons_zero, List.set_cons_succ]
    refine wpAnyH_take (i := 4) (v := (.bool true)) rfl (by kernel_rfl) (by kernel_rfl) (by kernel_rfl) (fun _ _ _ h => h) (Or.inl ⟨by kernel_rfl, fun w' hSw => (by go_simp)⟩) (by assumption) ?_
    try simp only [Act.put, List.getElem_toArray, List.getElem_cons_zero, List.getElem_cons_succ, List.setIfInBounds_toArray, List.set_cons_zero, List.set_cons_succ]
    refine wpAnyH_take (i := 5) (v := (.bool true)) rfl (by kernel_rfl) (by kernel_rfl) (by kernel_rfl) (fun _ _ _ h => h) (Or.inl ⟨by kernel_rfl, fun w' hSw => (by go_simp)⟩) (by assumption) ?_
    try simp only [Act.put, List.getElem_toArray, List.getElem_cons_zero, List.getElem_cons_succ, List.setIfInBounds_toArray, List.set_cons_zero, List.set_cons_succ]
    refine wpAnyH_take (i := 6) (v := (.agg #[.bool n.1, .slice va n.2.1.length vc, .int .i64 n.2.2])) rfl (by kernel_rfl) (by kernel_rfl) (by kernel_rfl) (fun _ _ _ h => h) (yieldsIf_load_mid (by kernel_rfl) 43 _ rfl w.heap.size 0 rfl [.bool n.1, .slice va n.2.1.length vc, .int .i64 n.2.2] _ (fun W hW => rng3 hW.1) Tryz.underlying43 rfl (by kernel_rfl)) (by assumption) ?_
    try simp only [Act.put, List.getElem_toArray, List.getElem_cons_zero, List.getElem_cons_succ, List.setIfInBounds_toArray, List.set_cons_zero, List.set_cons_succ]
    refine wpAnyH_take (i := 7) (v := (.slice (some ⟨w.heap.size + 1, 0, none⟩) 24 24)) rfl (by kernel_rfl) (by kernel_rfl) (by kernel_rfl) (fun _ _ _ h => h) (Or.inl ⟨by kernel_rfl, fun w' hSw => (by go_simp)⟩) (by assumption) ?_
    try simp only [Act.put, List.getElem_toArray, List.getElem_cons_zero, List.getElem_cons_succ, List.setIfInBounds_toArray, List.set_cons_zero, List.set_cons_succ]
    refine wpAnyH_take (i := 8) (v := (.int .i64 15)) rfl (by kernel_rfl) (by kernel_rfl) (by kernel_rfl) (fun _ _ _ h => h) (Or.inl ⟨by kernel_rfl, fun w' hSw => (by go_simp)⟩) (by assumption) ?_
    try simp only [Act.put, List.getElem_toArray, List.getElem_cons_zero, List.getElem_cons_succ, List.setIfInBounds_toArray, List.set_cons_zero, List.set_cons_succ]
    refine wpAnyH_take (i := 9) (v := (.pointer (some ⟨w.heap.size + 1, 15, none⟩))) rfl (by kernel_rfl) (by kernel_rfl) (by kernel_rfl) (fun _ _ _ h => h) (Or.inl ⟨by kernel_rfl, fun w' hSw => (by go_simp)⟩) (by assumption) ?_
    try simp only [Act.put, List.getElem_toArray, List.getElem_cons_zero, List.getElem_cons_succ, List.setIfInBounds_toArray, List.set_cons_zero, List.set_cons_succ]
    refine wpAnyH_take (i := 10) (v := (.string ⟨#[49]⟩)) rfl (by kernel_rfl) (by kernel_rfl) (by kernel_rfl) (fun _ _ _ h => h) (Or.inl ⟨by kernel_rfl, fun w' hSw => (by have hc : w'.cell? ⟨w.heap.size + 1, 15, none⟩ = some (.string ⟨#[49]⟩) := row_cell hSw.2.1; go_simp)⟩) (by assumption) ?_
    try simp only [Act.put, List.getElem_toArray, List.getElem_cons_zero, List.getElem_cons_succ, List.setIfInBounds_toArray, List.set_cons_zero, List.set_cons_succ]
    refine wpAnyH_ready (rs := [11]) (by kernel_rfl) (by simp) ?_
    refine AllReadyH.cons rfl (fun K hK => ?_) AllReadyH.nil
    go_simp
    refine Calls.mono (bound_r (n := (false, [1], 0)) ⟨#[49]⟩ _ (by decide) pb2) ?_
    rintro e w9 ⟨rv, rfl, hb9, hrv⟩
    have hbb := HB.out.trans (hb9.mono HB.out.size)
    have hS9 := HK.out _ hbb
    clear HB hHeld
    have HB : Hid _ := hbb
    have HRV : Hid _ := hrv
    clear hbb hb9 hrv
    go_wp2_with fail
    refine hK.out _ _ hS9 (fun hHeld => ?_)
    clear hK K hS9
    try simp only [Act.put, List.getElem_toArray, List.getElem_cons_zero, List.getElem_cons_succ, List.setIfInBounds_toArray, List.set_cons_zero, List.set_cons_succ]
    refine wpAnyH_ready (rs := [12]) (by kernel_rfl) (by simp) ?_
    refine AllReadyH.cons rfl (fun K hK => ?_) AllReadyH.nil
    go_simp
    have hcr := Dc.cmp_r (HN.out _ HB.out) HRV.out
    refine Calls.mono hcr ?_
    clear hcr
    rintro e w9 ⟨rfl, hb9⟩
    have hbb := HB.out.trans (hb9.mono HB.out.size)
    have hS9 := HK.out _ hbb
    clear HB hHeld
    have HB : Hid _ := hbb
    clear hbb hb9
    rw [HCl]
    go_wp2_with fail
    refine hK.out _ _ hS9 (fun hHeld => ?_)
    clear hK K hS9
    try simp only [Act.put, List.getElem_toArray, List.getElem_cons_zero, List.getElem_cons_succ, List.setIfInBounds_toArray, List.set_cons_zero, List.set_cons_succ]
    refine wpAnyH_take (i := 13) (v := (.bool true)) rfl (by kernel_rfl) (by kernel_rfl) (by kernel_rfl) (fun _ _ _ h => h) (Or.inl ⟨by kernel_rfl, fun w' hSw => (by go_simp)⟩) (by assumption) ?_
    try simp only [Act.put, List.getElem_toArray, List.getElem_cons_zero, List.getElem_cons_succ, List.setIfInBounds_toArray, List.set_cons_zero, List.set_cons_succ]
    refine wpAnyH_take (i := 14) (v := (.bool true)) rfl (by kernel_rfl) (by kernel_rfl) (by kernel_rfl) (fun _ _ _ h => h) (Or.inl ⟨by kernel_rfl, fun w' hSw => (by go_simp)⟩) (by assumption) ?_
    try simp only [Act.put, List.getElem_toArray, List.getElem_cons_zero, List.getElem_cons_succ, List.setIfInBounds_toArray, List.set_cons_zero, List.set_cons_succ]
    refine wpAnyH_done (by kernel_rfl) ?_ _
    clear hHeld
    go_wp2_with fail
    go_ret
    exact ⟨ret_b HE.out.symm, HU.out.trans (HB.out.mono HU.out.size)⟩
  have hcd : decide (c < 0) = false := by simpa using hc
  have HCN : Hid (¬ c < 0) := hc
  clear hc
  refine wp_region_held_drew (S := fun W => W.heap[w.heap.size]? = some (.cells #[.bool n.1, .slice va n.2.1.length vc, .int .i64 n.2.2] 43 (0, 0)) ∧ W.heap[w.heap.size + 1]? = some (.cells loT 9 (0, 0)) ∧ W.heap[w.heap.size + 1 + 1]? = some (.cells hiT 9 (0, 0))) (by kernel_rfl) (HK.out _ HB.out) (fun hHeld => ?_)
  refine wpAnyH_take (i := 0) (v := (.slice (some ⟨w.heap.size + 1, 0, none⟩) 24 24)) rfl (by kernel_rfl) (by kernel_rfl) (by kernel_rfl) (fun _ _ _ h => h) (Or.inl ⟨by kernel_rfl, fun w' hSw => (by go_simp)⟩) (by assumption) ?_
  try simp only [Act.put, List.getElem_toArray, List.getElem_cons_zero, List.getElem_cons_succ, List.setIfInBounds_toArray, List.set_cons_zero, List.set_cons_succ]
  refine wpAnyH_take (i := 1) (v := (.int .i64 15)) rfl (by kernel_rfl) (by kernel_rfl) (by kernel_rfl) (fun _ _ _ h => h) (Or.inl ⟨by kernel_rfl, fun w' hSw => (by go_simp)⟩) (by assumption) ?_
  try simp only [Act.put, List.getElem_toArray, List.getElem_cons_zero, List.getElem_cons_succ, List.setIfInBounds_toArray, List.set_cons_zero, List.set_cons_succ]
  refine wpAnyH_take (i := 2) (v := (.pointer (some ⟨w.heap.size + 1, 15, none⟩))) rfl (by kernel_rfl) (by kernel_rfl) (by kernel_rfl) (fun _ _ _ h => h) (Or.inl ⟨by kernel_rfl, fun w' hSw => (by go_simp)⟩) (by assumption) ?_
  try simp only [Act.put, List.getElem_toArray, List.getElem_cons_zero, List.getElem_cons_succ, List.setIfInBounds_toArray, List.set_cons_zero, List.set_cons_succ]
  refine wpAnyH_take (i := 3) (v := (.string ⟨#[49]⟩)) rfl (by kernel_rfl) (by kernel_rfl) (by kernel_rfl) (fun _ _ _ h => h) (Or.inl ⟨by kernel_rfl, fun w' hSw => (by have hc : w'.cell? ⟨w.heap.size + 1, 15, none⟩ = some (.string ⟨#[49]⟩) := row_cell hSw.2.1; go_simp)⟩) (by assumption) ?_
  try simp only [Act.put, List.getElem_toArray, List.getElem_cons_zero, List.getElem_cons_succ, List.setIfInBounds_toArray, List.set_cons_zero, List.set_cons_succ]
  refine wpAnyH_take (i := 4) (v := (.bool true)) rfl (by kernel_rfl) (by kernel_rfl) (by kernel_rfl) (fun _ _ _ h => h) (Or.inl ⟨by kernel_rfl, fun w' hSw => (by go_simp)⟩) (by assumption) ?_
  try simp only [Act.put, List.getElem_toArray, List.getElem_cons_zero, List.getElem_cons_succ, List.setIfInBounds_toArray, List.set_cons_zero, List.set_cons_succ]
  refine wpAnyH_take (i := 5) (v := (.bool true)) rfl (by kernel_rfl) (by kernel_rfl) (by kernel_rfl) (fun _ _ _ h => h) (Or.inl ⟨by kernel_rfl, fun w' hSw => (by go_simp)⟩) (by assumption) ?_
  try simp only [Act.put, List.getElem_toArray, List.getElem_cons_zero, List.getElem_cons_succ, List.setIfInBounds_toArray, List.set_cons_zero, List.set_cons_succ]
  refine wpAnyH_take (i := 6) (v := (.agg #[.bool n.1, .slice va n.2.1.length vc, .int .i64 n.2.2])) rfl (by kernel_rfl) (by kernel_rfl) (by kernel_rfl) (fun _ _ _ h => h) (yieldsIf_load_mid (by kernel_rfl) 43 _ rfl w.heap.size 0 rfl [.bool n.1, .slice va n.2.1.length vc, .int .i64 n.2.2] _ (fun W hW => rng3 hW.1) Tryz.underlying43 rfl (by kernel_rfl)) (by assumption) ?_
  try simp only [Act.put, List.getElem_toArray, List.getElem_cons_zero, List.getElem_cons_succ, List.setIfInBounds_toArray, List.set_cons_zero, List.set_cons_succ]
  refine wpAnyH_take (i := 7) (v := (.slice (some ⟨w.heap.size + 1, 0, none⟩) 24 24)) rfl (by kernel_rfl) (by kernel_rfl) (by kernel_rfl) (fun _ _ _ h => h) (Or.inl ⟨by kernel_rfl, fun w' hSw => (by go_simp)⟩) (by assumption) ?_
  try simp only [Act.put, List.getElem_toArray, List.getElem_cons_zero, List.getElem_cons_succ, List.setIfInBounds_toArray, List.set_cons_zero, List.set_cons_succ]
  refine wpAnyH_take (i := 8) (v := (.int .i64 15)) rfl (by kernel_rfl) (by kernel_rfl) (by kernel_rfl) (fun _ _ _ h => h) (Or.inl ⟨by kernel_rfl, fun w' hSw => (by go_simp)⟩) (by assumption) ?_
  try simp only [Act.put, List.getElem_toArray, List.getElem_cons_zero, List.getElem_cons_succ, List.setIfInBounds_toArray, List.set_cons_zero, List.set_cons_succ]
  refine wpAnyH_take (i := 9) (v := (.pointer (some ⟨w.heap.size + 1, 15, none⟩))) rfl (by kernel_rfl) (by kernel_rfl) (by kernel_rfl) (fun _ _ _ h => h) (Or.inl ⟨by kernel_rfl, fun w' hSw => (by go_simp)⟩) (by assumption) ?_
  try simp only [Act.put, List.getElem_toArray, List.getElem_cons_zero, List.getElem_cons_succ, List.setIfInBounds_toArray, List.set_cons_zero, List.set_cons_succ]
  refine wpAnyH_take (i := 10) (v := (.string ⟨#[49]⟩)) rfl (by kernel_rfl) (by kernel_rfl) (by kernel_rfl) (fun _ _ _ h => h) (Or.inl ⟨by kernel_rfl, fun w' hSw => (by have hc : w'.cell? ⟨w.heap.size + 1, 15, none⟩ = some (.string ⟨#[49]⟩) := row_cell hSw.2.1; go_simp)⟩) (by assumption) ?_
  try simp only [Act.put, List.getElem_toArray, List.getElem_cons_zero, List.getElem_cons_succ, List.setIfInBounds_toArray, List.set_cons_zero, List.set_cons_succ]
  refine wpAnyH_ready (rs := [11]) (by kernel_rfl) (by simp) ?_
  refine AllReadyH.cons rfl (fun K hK => ?_) AllReadyH.nil
  go_simp
  refine Calls.mono (bound_r (n := (false, [1], 0)) ⟨#[49]⟩ _ (by decide) pb2) ?_
  rintro e w9 ⟨rv, rfl, hb9, hrv⟩
  have hbb := HB.out.trans (hb9.mono HB.out.size)
  have hS9 := HK.out _ hbb
  clear HB hHeld
  have HB : Hid _ := hbb
  have HRV : Hid _ := hrv
  clear hbb hb9 hrv
  go_wp2_with fail
  refine hK.out _ _ hS9 (fun hHeld => ?_)
  clear hK K hS9
  try simp only [Act.put, List.getElem_toArray, List.getElem_cons_zero, List.getElem_cons_succ, List.setIfInBounds_toArray, List.set_cons_zero, List.set_cons_succ]
  refine wpAnyH_ready (rs := [12]) (by kernel_rfl) (by simp) ?_
  refine AllReadyH.cons rfl (fun K hK => ?_) AllReadyH.nil
  go_simp
  have hcr := Dc.cmp_r (HN.out _ HB.out) HRV.out
  refine Calls.mono hcr ?_
  clear hcr
  rintro e w9 ⟨rfl, hb9⟩
  have hbb := HB.out.trans (hb9.mono HB.out.size)
  have hS9 := HK.out _ hbb
  clear HB hHeld
  have HB : Hid _ := hbb
  clear hbb hb9
  rw [HCl]
  go_wp2_with fail
  refine hK.out _ _ hS9 (fun hHeld => ?_)
  clear hK K hS9
  try simp only [Act.put, List.getElem_toArray, List.getElem_cons_zero, List.getElem_cons_succ, List.setIfInBounds_toArray, List.set_cons_zero, List.set_cons_succ]
  refine wpAnyH_take (i := 13) (v := (.bool false)) rfl (by kernel_rfl) (by kernel_rfl) (by kernel_rfl) (fun _ _ _ h => h) (Or.inl ⟨by kernel_rfl, fun w' hSw => (by go_simp)⟩) (by assumption) ?_
  try simp only [Act.put, List.getElem_toArray, List.getElem_cons_zero, List.getElem_cons_succ, List.setIfInBounds_toArray, List.set_cons_zero, List.set_cons_succ]
  refine wpAnyH_take (i := 14) (v := (.bool false)) rfl (by kernel_rfl) (by kernel_rfl) (by kernel_rfl) (fun _ _ _ h => h) (Or.inl ⟨by kernel_rfl, fun w' hSw => (by go_simp)⟩) (by assumption) ?_
  try simp only [Act.put, List.getElem_toArray, List.getElem_cons_zero, List.getElem_cons_succ, List.setIfInBounds_toArray, List.set_cons_zero, List.set_cons_succ]
  refine wpAnyH_done (by kernel_rfl) ?_ _
  clear hHeld HRV
  go_upto_region 5 with fail
  have HE : Hid (wiB 15 (Dc.nv n 0) = true) := by
    show _ = _
    have := HW.out.1
    rw [HCl] at this
    have := HCN.out
    unfold wiB
    simp
    omega
  have HB1 : Hid _ := HB.out
  clear HB
  have HB : Hid (Below U.heap.size U w9.drew) := HB1.out.trans ((Dc.Below.drewN' 1).mono HB1.out.size)
  refine wp_region_held_drew (S := fun W => W.heap[w.heap.size]? = some (.cells #[.bool n.1, .slice va n.2.1.length vc, .int .i64 n.2.2] 43 (0, 0)) ∧ W.heap[w.heap.size + 1]? = some (.cells loT 9 (0, 0)) ∧ W.heap[w.heap.size + 1 + 1]? = some (.cells hiT 9 (0, 0))) (by kernel_rfl) (HK.out _ HB.out) (fun hHeld => ?_)
  refine wpAnyH_take (i := 0) (v := (.slice (some ⟨w.heap.size + 1 + 1, 0, none⟩) 24 24)) rfl (by kernel_rfl) (by kernel_rfl) (by kernel_rfl) (fun _ _ _ h => h) (Or.inl ⟨by kernel_rfl, fun w' hSw => (by go_simp)⟩) (by assumption) ?_
  try simp only [Act.put, List.getElem_toArray, List.getElem_cons_zero, List.getElem_cons_succ, List.setIfInBounds_toArray, List.set_cons_zero, List.set_cons_succ]
  refine wpAnyH_take (i := 1) (v := (.int .i64 15)) rfl (by kernel_rfl) (by kernel_rfl) (by kernel_rfl) (fun _ _ _ h => h) (Or.inl ⟨by kernel_rfl, fun w' hSw => (by go_simp)⟩) (by assumption) ?_
  try simp only [Act.put, List.getElem_toArray, List.getElem_cons_zero, List.getElem_cons_succ, List.setIfInBounds_toArray, List.set_cons_zero, List.set_cons_succ]
  refine wpAnyH_take (i := 2) (v := (.pointer (some ⟨w.heap.size + 1 + 1, 15, none⟩))) rfl (by kernel_rfl) (by kernel_rfl) (by kernel_rfl) (fun _ _ _ h => h) (Or.inl ⟨by kernel_rfl, fun w' hSw => (by go_simp)⟩) (by assumption) ?_
  try simp only [Act.put, List.getElem_toArray, List.getElem_cons_zero, List.getElem_cons_succ, List.setIfInBounds_toArray, List.set_cons_zero, List.set_cons_succ]
  refine wpAnyH_take (i := 3) (v := (.string ⟨#[]⟩)) rfl (by kernel_rfl) (by kernel_rfl) (by kernel_rfl) (fun _ _ _ h => h) (Or.inl ⟨by kernel_rfl, fun w' hSw => (by have hc : w'.cell? ⟨w.heap.size + 1 + 1, 15, none⟩ = some (.string ⟨#[]⟩) := row_cell hSw.2.2; go_simp)⟩) (by assumption) ?_
  try simp only [Act.put, List.getElem_toArray, List.getElem_cons_zero, List.getElem_cons_succ, List.setIfInBounds_toArray, List.set_cons_zero, List.set_cons_succ]
  refine wpAnyH_take (i := 4) (v := (.bool true)) rfl (by kernel_rfl) (by kernel_rfl) (by kernel_rfl) (fun _ _ _ h => h) (Or.inl ⟨by kernel_rfl, fun w' hSw => (by go_simp)⟩) (by assumption) ?_
  try simp only [Act.put, List.getElem_toArray, List.getElem_cons_zero, List.getElem_cons_succ, List.setIfInBounds_toArray, List.set_cons_zero, List.set_cons_succ]
  refine wpAnyH_take (i := 5) (v := (.bool true)) rfl (by kernel_rfl) (by kernel_rfl) (by kernel_rfl) (fun _ _ _ h => h) (Or.inl ⟨by kernel_rfl, fun w' hSw => (by go_simp)⟩) (by assumption) ?_
  try simp only [Act.put, List.getElem_toArray, List.getElem_cons_zero, List.getElem_cons_succ, List.setIfInBounds_toArray, List.set_cons_zero, List.set_cons_succ]
  refine wpAnyH_take (i := 6) (v := (undef)) rfl (by kernel_rfl) (by kernel_rfl) (by kernel_rfl) (fun _ _ _ h => h) (Or.inr ⟨by kernel_rfl, rfl⟩) (by assumption) ?_
  try simp only [Act.put, List.getElem_toArray, List.getElem_cons_zero, List.getElem_cons_succ, List.setIfInBounds_toArray, List.set_cons_zero, List.set_cons_succ]
  refine wpAnyH_take (i := 7) (v := (undef)) rfl (by kernel_rfl) (by kernel_rfl) (by kernel_rfl) (fun _ _ _ h => h) (Or.inr ⟨by kernel_rfl, rfl⟩) (by assumption) ?_
  try simp only [Act.put, List.getElem_toArray, List.getElem_cons_zero, List.getElem_cons_succ, List.setIfInBounds_toArray, List.set_cons_zero, List.set_cons_succ]
  refine wpAnyH_take (i := 8) (v := (undef)) rfl (by kernel_rfl) (by kernel_rfl) (by kernel_rfl) (fun _ _ _ h => h) (Or.inr ⟨by kernel_rfl, rfl⟩) (by assumption) ?_
  try simp only [Act.put, List.getElem_toArray, List.getElem_cons_zero, List.getElem_cons_succ, List.setIfInBounds_toArray, List.set_cons_zero, List.set_cons_succ]
  refine wpAnyH_take (i := 9) (v := (undef)) rfl (by kernel_rfl) (by kernel_rfl) (by kernel_rfl) (fun _ _ _ h => h) (Or.inr ⟨by kernel_rfl, rfl⟩) (by assumption) ?_
  try simp only [Act.put, List.getElem_toArray, List.getElem_cons_zero, List.getElem_cons_succ, List.setIfInBounds_toArray, List.set_cons_zero, List.set_cons_succ]
  refine wpAnyH_take (i := 10) (v := (undef)) rfl (by kernel_rfl) (by kernel_rfl) (by kernel_rfl) (fun _ _ _ h => h) (Or.inr ⟨by kernel_rfl, rfl⟩) (by assumption) ?_
  try simp only [Act.put, List.getElem_toArray, List.getElem_cons_zero, List.getElem_cons_succ, List.setIfInBounds_toArray, List.set_cons_zero, List.set_cons_succ]
  refine wpAnyH_take (i := 11) (v := (undef)) rfl (by kernel_rfl) (by kernel_rfl) (by kernel_rfl) (fun _ _ _ h => h) (Or.inr ⟨by kernel_rfl, rfl⟩) (by assumption) ?_
  try simp only [Act.put, List.getElem_toArray, List.getElem_cons_zero, List.getElem_cons_succ, List.setIfInBounds_toArray, List.set_cons_zero, List.set_cons_succ]
  refine wpAnyH_take (i := 12) (v := (undef)) rfl (by kernel_rfl) (by kernel_rfl) (by kernel_rfl) (fun _ _ _ h => h) (Or.inr ⟨by kernel_rfl, rfl⟩) (by assumption) ?_
  try simp only [Act.put, List.getElem_toArray, List.getElem_cons_zero, List.getElem_cons_succ, List.setIfInBounds_toArray, List.set_cons_zero, List.set_cons_succ]
  refine wpAnyH_take (i := 13) (v := (undef)) rfl (by kernel_rfl) (by kernel_rfl) (by kernel_rfl) (fun _ _ _ h => h) (Or.inr ⟨by kernel_rfl, rfl⟩) (by assumption) ?_
  try simp only [Act.put, List.getElem_toArray, List.getElem_cons_zero, List.getElem_cons_succ, List.setIfInBounds_toArray, List.set_cons_zero, List.set_cons_succ]
  refine wpAnyH_take (i := 14) (v := (.bool true)) rfl (by kernel_rfl) (by kernel_rfl) (by kernel_rfl) (fun _ _ _ h => h) (Or.inl ⟨by kernel_rfl, fun w' hSw => (by go_simp)⟩) (by assumption) ?_
  try simp only [Act.put, List.getElem_toArray, List.getElem_cons_zero, List.getElem_cons_succ, List.setIfInBounds_toArray, List.set_cons_zero, List.set_cons_succ]
  refine wpAnyH_take (i := 15) (v := (.bool true)) rfl (by kernel_rfl) (by kernel_rfl) (by kernel_rfl) (fun _ _ _ h => h) (Or.inl ⟨by kernel_rfl, fun w' hSw => (by go_simp)⟩) (by assumption) ?_
  try simp only [Act.put, List.getElem_toArray, List.getElem_cons_zero, List.getElem_cons_succ, List.setIfInBounds_toArray, List.set_cons_zero, List.set_cons_succ]
  refine wpAnyH_done (by kernel_rfl) ?_ _
  go_wp2_with fail
  go_ret
  exact ⟨ret_b HE.out.symm, HU.out.trans (HB.out.mono HU.out.size)⟩
set_option maxRecDepth 100000 in
set_option maxHeartbeats 6400000 in
theorem within_16 {w : World} {v : Value} {n : Dc.Nm} (hn : Dc.NmR w v n) (h0 : n.2.2 = 0) : Calls Tryz.prog 43 #[.int .i64 16, Dc.nmV n.1 v n.2.2] w fun e w' => e = .returned (.bool (wiB 16 (Dc.nv n 0))) ∧ Below w.heap.size w w' := by
  have hl := (cmp_whole hn.cn h0 pb3c rfl).1
  rw [pb3v] at hl
  have hh := (cmp_whole hn.cn h0 pb4c rfl).2
  rw [pb4v] at hh
  have HW : Hid ((Dc.cmpS n (true, [9, 2, 2, 3, 3, 7, 2, 0, 3, 6, 8, 5, 4, 7, 7, 5, 8, 0, 8], 0) < 0 ↔ Dc.nv n 0 < -9223372036854775808) ∧ (Dc.cmpS n (false, [9, 2, 2, 3, 3, 7, 2, 0, 3, 6, 8, 5, 4, 7, 7, 5, 8, 0, 7], 0) ≤ 0 ↔ Dc.nv n 0 ≤ 9223372036854775807)) := ⟨hl, hh⟩
  clear hl hh
  obtain ⟨va, vc, rfl, _⟩ := hn.bt.form
  have hx := M.nw_heap w (.cells #[.bool n.1, .slice va n.2.1.length vc, .int .i64 n.2.2] 43)
  have hb1 : Below w.heap.size w (((w.alloc (.cells #[.bool n.1, .slice va n.2.1.length vc, .int .i64 n.2.2] 43)).alloc (.cells loT 9)).alloc (.cells hiT 9)) := bel3 w _ _ _
  have hS := blocks3 w (.cells #[.bool n.1, .slice va n.2.1.length vc, .int .i64 n.2.2] 43) (.cells loT 9) (.cells hiT 9)
  obtain ⟨U, hU⟩ : ∃ U, ((w.alloc (.cells #[.bool n.1, .slice va n.2.1.length vc, .int .i64 n.2.2] 43)).alloc (.cells loT 9)).alloc (.cells hiT 9) = U := ⟨_, rfl⟩
  rw [hU] at hb1 hS
  have HN : Hid _ := fun W (hW : Below U.heap.size U W) => hn.below (hb1.trans (hW.mono hb1.size))
  have HK : Hid (∀ W, Below U.heap.size U W → _ ∧ _ ∧ _) := fun W hW => And.intro ((hW.block _ (Dc.lt_of hS.1)).trans hS.1) (And.intro ((hW.block _ (Dc.lt_of hS.2.1)).trans hS.2.1) ((hW.block _ (Dc.lt_of hS.2.2)).trans hS.2.2))
  have HU : Hid _ := hb1
  clear hx hb1 hS hn h0
  obtain ⟨c, HCl⟩ : ∃ c, Dc.cmpS n (true, [9, 2, 2, 3, 3, 7, 2, 0, 3, 6, 8, 5, 4, 7, 7, 5, 8, 0, 8], 0) = c := ⟨_, rfl⟩
  obtain ⟨d, HCh⟩ : ∃ d, Dc.cmpS n (false, [9, 2, 2, 3, 3, 7, 2, 0, 3, 6, 8, 5, 4, 7, 7, 5, 8, 0, 7], 0) = d := ⟨_, rfl⟩
  go_enter Tryz.func43, Tryz.ntmps43
  go_upto_region 3 with fail
  try rw [show ((w.alloc (.cells #[.bool n.1, .slice va n.2.1.length vc, .int .i64 n.2.2] 43)).alloc (.cells #[.string ⟨#[]⟩, .string ⟨#[]⟩, .string ⟨#[]⟩, .string ⟨#[]⟩, .string ⟨#[]⟩, .string ⟨#[]⟩, .string ⟨#[]⟩, .string ⟨#[]⟩, .string ⟨#[]⟩, .string ⟨#[]⟩, .string ⟨#[]⟩, .string ⟨#[]⟩, .string ⟨#[]⟩, .string ⟨#[]⟩, .string ⟨#[48]⟩, .string ⟨#[49]⟩, .string ⟨#[45, 57, 50, 50, 51, 51, 55, 50, 48, 51, 54, 56, 53, 52, 55, 55, 53, 56, 48, 56]⟩, .string ⟨#[45, 50, 49, 52, 55, 52, 56, 51, 54, 52, 56]⟩, .string ⟨#[45, 51, 50, 55, 54, 56]⟩, .string ⟨#[45, 49, 50, 56]⟩, .string ⟨#[48]⟩, .string ⟨#[48]⟩, .string ⟨#[48]⟩, .string ⟨#[48]⟩] 9)).alloc (.cells #[.string ⟨#[]⟩, .string ⟨#[]⟩, .string ⟨#[]⟩, .string ⟨#[]⟩, .string ⟨#[]⟩, .string ⟨#[]⟩, .string ⟨#[]⟩, .string ⟨#[]⟩, .string ⟨#[]⟩, .string ⟨#[]⟩, .string ⟨#[]⟩, .string ⟨#[]⟩, .string ⟨#[48]⟩, .string ⟨#[45, 49]⟩, .string ⟨#[]⟩, .string ⟨#[]⟩, .string ⟨#[57, 50, 50, 51, 51, 55, 50, 48, 51, 54, 56, 53, 52, 55, 55, 53, 56, 48, 55]⟩, .string ⟨#[50, 49, 52, 55, 52, 56, 51, 54, 52, 55]⟩, .string ⟨#[51, 50, 55, 54, 55]⟩, .string ⟨#[49, 50, 55]⟩, .string ⟨#[49, 56, 52, 52, 54, 55, 52, 52, 48, 55, 51, 55, 48, 57, 53, 53, 49, 54, 49, 53]⟩, .string ⟨#[52, 50, 57, 52, 57, 54, 55, 50, 57, 53]⟩, .string ⟨#[54, 53, 53, 51, 53]⟩, .string ⟨#[50, 53, 53]⟩] 9) = U from hU]
  clear hU
  have HB : Hid (Below U.heap.size U U.drew) := Dc.Below.drewN' 1
  by_cases hc : c < 0
  · have hcd : decide (c < 0) = true := by simpa using hc
    have HE : Hid (wiB 16 (Dc.nv n 0) = false) := by
      show _ = _
      have := HW.out.1
      rw [HCl] at this
      unfold wiB
      simp
      omega
    clear hc
    refine wp_region_held_drew (S := fun W => W.heap[w.heap.size]? = some (.cells #[.bool n.1, .slice va n.2.1.length vc, .int .i64 n.2.2] 43 (0, 0)) ∧ W.heap[w.heap.size + 1]? = some (.cells loT 9 (0, 0)) ∧ W.heap[w.heap.size + 1 + 1]? = some (.cells hiT 9 (0, 0))) (by kernel_rfl) (HK.out _ HB.out) (fun hHeld => ?_)
    refine wpAnyH_take (i := 0) (v := (.slice (some ⟨w.heap.size + 1, 0, none⟩) 24 24)) rfl (by kernel_rfl) (by kernel_rfl) (by kernel_rfl) (fun _ _ _ h => h) (Or.inl ⟨by kernel_rfl, fun w' hSw => (by go_simp)⟩) (by assumption) ?_
    try simp only [Act.put, List.getElem_toArray, List.getElem_cons_zero, List.getElem_cons_succ, List.setIfInBounds_toArray, List.set_cons_zero, List.set_cons_succ]
    refine wpAnyH_take (i := 1) (v := (.int .i64 16)) rfl (by kernel_rfl) (by kernel_rfl) (by kernel_rfl) (fun _ _ _ h => h) (Or.inl ⟨by kernel_rfl, fun w' hSw => (by go_simp)⟩) (by assumption) ?_
    try simp only [Act.put, List.getElem_toArray, List.getElem_cons_zero, List.getElem_cons_succ, List.setIfInBounds_toArray, List.set_cons_zero, List.set_cons_succ]
    refine wpAnyH_take (i := 2) (v := (.pointer (some ⟨w.heap.size + 1, 16, none⟩))) rfl (by kernel_rfl) (by kernel_rfl) (by kernel_rfl) (fun _ _ _ h => h) (Or.inl ⟨by kernel_rfl, fun w' hSw => (by go_simp)⟩) (by assumption) ?_
    try simp only [Act.put, List.getElem_toArray, List.getElem_cons_zero, List.getElem_cons_succ, List.setIfInBounds_toArray, List.set_cons_zero, List.set_cons_succ]
    refine wpAnyH_take (i := 3) (v := (.string ⟨#[45, 57, 50, 50, 51, 51, 55, 50, 48, 51, 54, 56, 53, 52, 55, 55, 53, 56, 48, 56]⟩)) rfl (by kernel_rfl) (by kernel_rfl) (by kernel_rfl) (fun _ _ _ h => h) (Or.inl ⟨by kernel_rfl, fun w' hSw => (by have hc : w'.cell? ⟨w.heap.size + 1, 16, none⟩ = some (.string ⟨#[45, 57, 50, 50, 51, 51, 55, 50, 48, 51, 54, 56, 53, 52, 55, 55, 53, 56, 48, 56]⟩) := row_cell hSw.2.1; go_simp)⟩) (by assumption) ?_
    try simp only [Act.put, List.getElem_toArray, List.getElem_cons_zero, List.getElem_cons_succ, List.setIfInBounds_toArray, List.set_cons_zero, List.set_cons_succ]
    refine wpAnyH_take (i := 4) (v := (.bool true)) rfl (by kernel_rfl) (by kernel_rfl) (by kernel_rfl) (fun _ _ _ h => h) (Or.inl ⟨by kernel_rfl, fun w' hSw => (by go_simp)⟩) (by assumption) ?_
    try simp only [Act.put, List.getElem_toArray, List.getElem_cons_zero, List.getElem_cons_succ, List.setIfInBounds_toArray, List.set_cons_zero, List.set_cons_succ]
    refine wpAnyH_take (i := 5) (v := (.bool true)) rfl (by kernel_rfl) (by kernel_rfl) (by kernel_rfl) (fun _ _ _ h => h) (Or.inl ⟨by kernel_rfl, fun w' hSw => (by go_simp)⟩) (by assumption) ?_
    try simp only [Act.put, List.getElem_toArray, List.getElem_cons_zero, List.getElem_cons_succ, List.setIfInBounds_toArray, List.set_cons_zero, List.set_cons_succ]
    refine wpAnyH_take (i := 6) (v := (.agg #[.bool n.1, .slice va n.2.1.length vc, .int .i64 n.2.2])) rfl (by kernel_rfl) (by kernel_rfl) (by kernel_rfl) (fun _ _ _ h => h) (yieldsIf_load_mid (by kernel_rfl) 43 _ rfl w.heap.size 0 rfl [.bool n.1, .slice va n.2.1.length vc, .int .i64 n.2.2] _ (fun W hW => rng3 hW.1) Tryz.underlying43 rfl (by kernel_rfl)) (by assumption) ?_
    try simp only [Act.put, List.getElem_toArray, List.getElem_cons_zero, List.getElem_cons_succ, List.setIfInBounds_toArray, List.set_cons_zero, List.set_cons_succ]
    refine wpAnyH_take (i := 7) (v := (.slice (some ⟨w.heap.size + 1, 0, none⟩) 24 24)) rfl (by kernel_rfl) (by kernel_rfl) (by kernel_rfl) (fun _ _ _ h => h) (Or.inl ⟨by kernel_rfl, fun w' hSw => (by go_simp)⟩) (by assumption) ?_
    try simp only [Act.put, List.getElem_toArray, List.getElem_cons_zero, List.getElem_cons_succ, List.setIfInBounds_toArray, List.set_cons_zero, List.set_cons_succ]
    refine wpAnyH_take (i := 8) (v := (.int .i64 16)) rfl (by kernel_rfl) (by kernel_rfl) (by kernel_rfl) (fun _ _ _ h => h) (Or.inl ⟨by kernel_rfl, fun w' hSw => (by go_simp)⟩) (by assumption) ?_
    try simp only [Act.put, List.getElem_toArray, List.getElem_cons_zero, List.getElem_cons_succ, List.setIfInBounds_toArray, List.set_cons_zero, List.set_cons_succ]
    refine wpAnyH_take (i := 9) (v := (.pointer (some ⟨w.heap.size + 1, 16, none⟩))) rfl (by kernel_rfl) (by kernel_rfl) (by kernel_rfl) (fun _ _ _ h => h) (Or.inl ⟨by kernel_rfl, fun w' hSw => (by go_simp)⟩) (by assumption) ?_
    try simp only [Act.put, List.getElem_toArray, List.getElem_cons_zero, List.getElem_cons_succ, List.setIfInBounds_toArray, List.set_cons_zero, List.set_cons_succ]
    refine wpAnyH_take (i := 10) (v := (.string ⟨#[45, 57, 50, 50, 51, 51, 55, 50, 48, 51, 54, 56, 53, 52, 55, 55, 53, 56, 48, 56]⟩)) rfl (by kernel_rfl) (by kernel_rfl) (by kernel_rfl) (fun _ _ _ h => h) (Or.inl ⟨by kernel_rfl, fun w' hSw => (by have hc : w'.cell? ⟨w.heap.size + 1, 16, none⟩ = some (.string ⟨#[45, 57, 50, 50, 51, 51, 55, 50, 48, 51, 54, 56, 53, 52, 55, 55, 53, 56, 48, 56]⟩) := row_cell hSw.2.1; go_simp)⟩) (by assumption) ?_
    try simp only [Act.put, List.getElem_toArray, List.getElem_cons_zero, List.getElem_cons_succ, List.setIfInBounds_toArray, List.set_cons_zero, List.set_cons_succ]
    refine wpAnyH_ready (rs := [11]) (by kernel_rfl) (by simp) ?_
    refine AllReadyH.cons rfl (fun K hK => ?_) AllReadyH.nil
    go_simp
    refine Calls.mono (bound_r (n := (true, [9, 2, 2, 3, 3, 7, 2, 0, 3, 6, 8, 5, 4, 7, 7, 5, 8, 0, 8], 0)) ⟨#[45, 57, 50, 50, 51, 51, 55, 50, 48, 51, 54, 56, 53, 52, 55, 55, 53, 56, 48, 56]⟩ _ (by decide) pb3) ?_
    rintro e w9 ⟨rv, rfl, hb9, hrv⟩
    have hbb := HB.out.trans (hb9.mono HB.out.size)
    have hS9 := HK.out _ hbb
    clear HB hHeld
    have HB : Hid _ := hbb
    have HRV : Hid _ := hrv
    clear hbb hb9 hrv
    go_wp2_with fail
    refine hK.out _ _ hS9 (fun hHeld => ?_)
    clear hK K hS9
    try simp only [Act.put, List.getElem_toArray, List.getElem_cons_zero, List.getElem_cons_succ, List.setIfInBounds_toArray, List.set_cons_zero, List.set_cons_succ]
    refine wpAnyH_ready (rs := [12]) (by kernel_rfl) (by simp) ?_
    refine AllReadyH.cons rfl (fun K hK => ?_) AllReadyH.nil
    go_simp
    have hcr := Dc.cmp_r (HN.out _ HB.out) HRV.out
    refine Calls.mono hcr ?_
    clear hcr
    rintro e w9 ⟨rfl, hb9⟩
    have hbb := HB.out.trans (hb9.mono HB.out.size)
    have hS9 := HK.out _ hbb
    clear HB hHeld
    have HB : Hid _ := hbb
    clear hbb hb9
    rw [HCl]
    go_wp2_with fail
    refine hK.out _ _ hS9 (fun hHeld => ?_)
    clear hK K hS9
    try simp only [Act.put, List.getElem_toArray, List.getElem_cons_zero, List.getElem_cons_succ, List.setIfInBounds_toArray, List.set_cons_zero, List.set_cons_succ]
    refine wpAnyH_take (i := 13) (v := (.bool true)) rfl (by kernel_rfl) (by kernel_rfl) (by kernel_rfl) (fun _ _ _ h => h) (Or.inl ⟨by kernel_rfl, fun w' hSw => (by go_simp)⟩) (by assumption) ?_
    try simp only [Act.put, List.getElem_toArray, List.getElem_cons_zero, List.getElem_cons_succ, List.setIfInBounds_toArray, List.set_cons_zero, List.set_cons_succ]
    refine wpAnyH_take (i := 14) (v := (.bool true)) rfl (by kernel_rfl) (by kernel_rfl) (by kernel_rfl) (fun _ _ _ h => h) (Or.inl ⟨by kernel_rfl, fun w' hSw => (by go_simp)⟩) (by assumption) ?_
    try simp only [Act.put, List.getElem_toArray, List.getElem_cons_zero, List.getElem_cons_succ, List.setIfInBounds_toArray, List.set_cons_zero, List.set_cons_succ]
    refine wpAnyH_done (by kernel_rfl) ?_ _
    clear hHeld
    go_wp2_with fail
    go_ret
    exact ⟨ret_b HE.out.symm, HU.out.trans (HB.out.mono HU.out.size)⟩
  have hcd : decide (c < 0) = false := by simpa using hc
  have HCN : Hid (¬ c < 0) := hc
  clear hc
  refine wp_region_held_drew (S := fun W => W.heap[w.heap.size]? = some (.cells #[.bool n.1, .slice va n.2.1.length vc, .int .i64 n.2.2] 43 (0, 0)) ∧ W.heap[w.heap.size + 1]? = some (.cells loT 9 (0, 0)) ∧ W.heap[w.heap.size + 1 + 1]? = some (.cells hiT 9 (0, 0))) (by kernel_rfl) (HK.out _ HB.out) (fun hHeld => ?_)
  refine wpAnyH_take (i := 0) (v := (.slice (some ⟨w.heap.size + 1, 0, none⟩) 24 24)) rfl (by kernel_rfl) (by kernel_rfl) (by kernel_rfl) (fun _ _ _ h => h) (Or.inl ⟨by kernel_rfl, fun w' hSw => (by go_simp)⟩) (by assumption) ?_
  try simp only [Act.put, List.getElem_toArray, List.getElem_cons_zero, List.getElem_cons_succ, List.setIfInBounds_toArray, List.set_cons_zero, List.set_cons_succ]
  refine wpAnyH_take (i := 1) (v := (.int .i64 16)) rfl (by kernel_rfl) (by kernel_rfl) (by kernel_rfl) (fun _ _ _ h => h) (Or.inl ⟨by kernel_rfl, fun w' hSw => (by go_simp)⟩) (by assumption) ?_
  try simp only [Act.put, List.getElem_toArray, List.getElem_cons_zero, List.getElem_cons_succ, List.setIfInBounds_toArray, List.set_cons_zero, List.set_cons_succ]
  refine wpAnyH_take (i := 2) (v := (.pointer (some ⟨w.heap.size + 1, 16, none⟩))) rfl (by kernel_rfl) (by kernel_rfl) (by kernel_rfl) (fun _ _ _ h => h) (Or.inl ⟨by kernel_rfl, fun w' hSw => (by go_simp)⟩) (by assumption) ?_
  try simp only [Act.put, List.getElem_toArray, List.getElem_cons_zero, List.getElem_cons_succ, List.setIfInBounds_toArray, List.set_cons_zero, List.set_cons_succ]
  refine wpAnyH_take (i := 3) (v := (.string ⟨#[45, 57, 50, 50, 51, 51, 55, 50, 48, 51, 54, 56, 53, 52, 55, 55, 53, 56, 48, 56]⟩)) rfl (by kernel_rfl) (by kernel_rfl) (by kernel_rfl) (fun _ _ _ h => h) (Or.inl ⟨by kernel_rfl, fun w' hSw => (by have hc : w'.cell? ⟨w.heap.size + 1, 16, none⟩ = some (.string ⟨#[45, 57, 50, 50, 51, 51, 55, 50, 48, 51, 54, 56, 53, 52, 55, 55, 53, 56, 48, 56]⟩) := row_cell hSw.2.1; go_simp)⟩) (by assumption) ?_
  try simp only [Act.put, List.getElem_toArray, List.getElem_cons_zero, List.getElem_cons_succ, List.setIfInBounds_toArray, List.set_cons_zero, List.set_cons_succ]
  refine wpAnyH_take (i := 4) (v := (.bool true)) rfl (by kernel_rfl) (by kernel_rfl) (by kernel_rfl) (fun _ _ _ h => h) (Or.inl ⟨by kernel_rfl, fun w' hSw => (by go_simp)⟩) (by assumption) ?_
  try simp only [Act.put, List.getElem_toArray, List.getElem_cons_zero, List.getElem_cons_succ, List.setIfInBounds_toArray, List.set_cons_zero, List.set_cons_succ]
  refine wpAnyH_take (i := 5) (v := (.bool true)) rfl (by kernel_rfl) (by kernel_rfl) (by kernel_rfl) (fun _ _ _ h => h) (Or.inl ⟨by kernel_rfl, fun w' hSw => (by go_simp)⟩) (by assumption) ?_
  try simp only [Act.put, List.getElem_toArray, List.getElem_cons_zero, List.getElem_cons_succ, List.setIfInBounds_toArray, List.set_cons_zero, List.set_cons_succ]
  refine wpAnyH_take (i := 6) (v := (.agg #[.bool n.1, .slice va n.2.1.length vc, .int .i64 n.2.2])) rfl (by kernel_rfl) (by kernel_rfl) (by kernel_rfl) (fun _ _ _ h => h) (yieldsIf_load_mid (by kernel_rfl) 43 _ rfl w.heap.size 0 rfl [.bool n.1, .slice va n.2.1.length vc, .int .i64 n.2.2] _ (fun W hW => rng3 hW.1) Tryz.underlying43 rfl (by kernel_rfl)) (by assumption) ?_
  try simp only [Act.put, List.getElem_toArray, List.getElem_cons_zero, List.getElem_cons_succ, List.setIfInBounds_toArray, List.set_cons_zero, List.set_cons_succ]
  refine wpAnyH_take (i := 7) (v := (.slice (some ⟨w.heap.size + 1, 0, none⟩) 24 24)) rfl (by kernel_rfl) (by kernel_rfl) (by kernel_rfl) (fun _ _ _ h => h) (Or.inl ⟨by kernel_rfl, fun w' hSw => (by go_simp)⟩) (by assumption) ?_
  try simp only [Act.put, List.getElem_toArray, List.getElem_cons_zero, List.getElem_cons_succ, List.setIfInBounds_toArray, List.set_cons_zero, List.set_cons_succ]
  refine wpAnyH_take (i := 8) (v := (.int .i64 16)) rfl (by kernel_rfl) (by kernel_rfl) (by kernel_rfl) (fun _ _ _ h => h) (Or.inl ⟨by kernel_rfl, fun w' hSw => (by go_simp)⟩) (by assumption) ?_
  try simp only [Act.put, List.getElem_toArray, List.getElem_cons_zero, List.getElem_cons_succ, List.setIfInBounds_toArray, List.set_cons_zero, List.set_cons_succ]
  refine wpAnyH_take (i := 9) (v := (.pointer (some ⟨w.heap.size + 1, 16, none⟩))) rfl (by kernel_rfl) (by kernel_rfl) (by kernel_rfl) (fun _ _ _ h => h) (Or.inl ⟨by kernel_rfl, fun w' hSw => (by go_simp)⟩) (by assumption) ?_
  try simp only [Act.put, List.getElem_toArray, List.getElem_cons_zero, List.getElem_cons_succ, List.setIfInBounds_toArray, List.set_cons_zero, List.set_cons_succ]
  refine wpAnyH_take (i := 10) (v := (.string ⟨#[45, 57, 50, 50, 51, 51, 55, 50, 48, 51, 54, 56, 53, 52, 55, 55, 53, 56, 48, 56]⟩)) rfl (by kernel_rfl) (by kernel_rfl) (by kernel_rfl) (fun _ _ _ h => h) (Or.inl ⟨by kernel_rfl, fun w' hSw => (by have hc : w'.cell? ⟨w.heap.size + 1, 16, none⟩ = some (.string ⟨#[45, 57, 50, 50, 51, 51, 55, 50, 48, 51, 54, 56, 53, 52, 55, 55, 53, 56, 48, 56]⟩) := row_cell hSw.2.1; go_simp)⟩) (by assumption) ?_
  try simp only [Act.put, List.getElem_toArray, List.getElem_cons_zero, List.getElem_cons_succ, List.setIfInBounds_toArray, List.set_cons_zero, List.set_cons_succ]
  refine wpAnyH_ready (rs := [11]) (by kernel_rfl) (by simp) ?_
  refine AllReadyH.cons rfl (fun K hK => ?_) AllReadyH.nil
  go_simp
  refine Calls.mono (bound_r (n := (true, [9, 2, 2, 3, 3, 7, 2, 0, 3, 6, 8, 5, 4, 7, 7, 5, 8, 0, 8], 0)) ⟨#[45, 57, 50, 50, 51, 51, 55, 50, 48, 51, 54, 56, 53, 52, 55, 55, 53, 56, 48, 56]⟩ _ (by decide) pb3) ?_
  rintro e w9 ⟨rv, rfl, hb9, hrv⟩
  have hbb := HB.out.trans (hb9.mono HB.out.size)
  have hS9 := HK.out _ hbb
  clear HB hHeld
  have HB : Hid _ := hbb
  have HRV : Hid _ := hrv
  clear hbb hb9 hrv
  go_wp2_with fail
  refine hK.out _ _ hS9 (fun hHeld => ?_)
  clear hK K hS9
  try simp only [Act.put, List.getElem_toArray, List.getElem_cons_zero, List.getElem_cons_succ, List.setIfInBounds_toArray, List.set_cons_zero, List.set_cons_succ]
  refine wpAnyH_ready (rs := [12]) (by kernel_rfl) (by simp) ?_
  refine AllReadyH.cons rfl (fun K hK => ?_) AllReadyH.nil
  go_simp
  have hcr := Dc.cmp_r (HN.out _ HB.out) HRV.out
  refine Calls.mono hcr ?_
  clear hcr
  rintro e w9 ⟨rfl, hb9⟩
  have hbb := HB.out.trans (hb9.mono HB.out.size)
  have hS9 := HK.out _ hbb
  clear HB hHeld
  have HB : Hid _ := hbb
  clear hbb hb9
  rw [HCl]
  go_wp2_with fail
  refine hK.out _ _ hS9 (fun hHeld => ?_)
  clear hK K hS9
  try simp only [Act.put, List.getElem_toArray, List.getElem_cons_zero, List.getElem_cons_succ, List.setIfInBounds_toArray, List.set_cons_zero, List.set_cons_succ]
  refine wpAnyH_take (i := 13) (v := (.bool false)) rfl (by kernel_rfl) (by kernel_rfl) (by kernel_rfl) (fun _ _ _ h => h) (Or.inl ⟨by kernel_rfl, fun w' hSw => (by go_simp)⟩) (by assumption) ?_
  try simp only [Act.put, List.getElem_toArray, List.getElem_cons_zero, List.getElem_cons_succ, List.setIfInBounds_toArray, List.set_cons_zero, List.set_cons_succ]
  refine wpAnyH_take (i := 14) (v := (.bool false)) rfl (by kernel_rfl) (by kernel_rfl) (by kernel_rfl) (fun _ _ _ h => h) (Or.inl ⟨by kernel_rfl, fun w' hSw => (by go_simp)⟩) (by assumption) ?_
  try simp only [Act.put, List.getElem_toArray, List.getElem_cons_zero, List.getElem_cons_succ, List.setIfInBounds_toArray, List.set_cons_zero, List.set_cons_succ]
  refine wpAnyH_done (by kernel_rfl) ?_ _
  clear hHeld HRV
  go_upto_region 5 with fail
  by_cases hd : d ≤ 0
  · have hdd : decide (d ≤ 0) = true := by simpa using hd
    have HE : Hid (wiB 16 (Dc.nv n 0) = true) := by
      show _ = _
      have h2 := HW.out.2
      rw [HCh] at h2
      have h1 := HW.out.1
      rw [HCl] at h1
      have h3 := HCN.out
      unfold wiB
      simp
      omega
    clear hd
    have HB1 : Hid _ := HB.out
    clear HB
    have HB : Hid (Below U.heap.size U w9.drew) := HB1.out.trans ((Dc.Below.drewN' 1).mono HB1.out.size)
    refine wp_region_held_drew (S := fun W => W.heap[w.heap.size]? = some (.cells #[.bool n.1, .slice va n.2.1.length vc, .int .i64 n.2.2] 43 (0, 0)) ∧ W.heap[w.heap.size + 1]? = some (.cells loT 9 (0, 0)) ∧ W.heap[w.heap.size + 1 + 1]? = some (.cells hiT 9 (0, 0))) (by kernel_rfl) (HK.out _ HB.out) (fun hHeld => ?_)
    refine wpAnyH_take (i := 0) (v := (.slice (some ⟨w.heap.size + 1 + 1, 0, none⟩) 24 24)) rfl (by kernel_rfl) (by kernel_rfl) (by kernel_rfl) (fun _ _ _ h => h) (Or.inl ⟨by kernel_rfl, fun w' hSw => (by go_simp)⟩) (by assumption) ?_
    try simp only [Act.put, List.getElem_toArray, List.getElem_cons_zero, List.getElem_cons_succ, List.setIfInBounds_toArray, List.set_cons_zero, List.set_cons_succ]
    refine wpAnyH_take (i := 1) (v := (.int .i64 16)) rfl (by kernel_rfl) (by kernel_rfl) (by kernel_rfl) (fun _ _ _ h => h) (Or.inl ⟨by kernel_rfl, fun w' hSw => (by go_simp)⟩) (by assumption) ?_
    try simp only [Act.put, List.getElem_toArray, List.getElem_cons_zero, List.getElem_cons_succ, List.setIfInBounds_toArray, List.set_cons_zero, List.set_cons_succ]
    refine wpAnyH_take (i := 2) (v := (.pointer (some ⟨w.heap.size + 1 + 1, 16, none⟩))) rfl (by kernel_rfl) (by kernel_rfl) (by kernel_rfl) (fun _ _ _ h => h) (Or.inl ⟨by kernel_rfl, fun w' hSw => (by go_simp)⟩) (by assumption) ?_
    try simp only [Act.put, List.getElem_toArray, List.getElem_cons_zero, List.getElem_cons_succ, List.setIfInBounds_toArray, List.set_cons_zero, List.set_cons_succ]
    refine wpAnyH_take (i := 3) (v := (.string ⟨#[57, 50, 50, 51, 51, 55, 50, 48, 51, 54, 56, 53, 52, 55, 55, 53, 56, 48, 55]⟩)) rfl (by kernel_rfl) (by kernel_rfl) (by kernel_rfl) (fun _ _ _ h => h) (Or.inl ⟨by kernel_rfl, fun w' hSw => (by have hc : w'.cell? ⟨w.heap.size + 1 + 1, 16, none⟩ = some (.string ⟨#[57, 50, 50, 51, 51, 55, 50, 48, 51, 54, 56, 53, 52, 55, 55, 53, 56, 48, 55]⟩) := row_cell hSw.2.2; go_simp)⟩) (by assumption) ?_
    try simp only [Act.put, List.getElem_toArray, List.getElem_cons_zero, List.getElem_cons_succ, List.setIfInBounds_toArray, List.set_cons_zero, List.set_cons_succ]
    refine wpAnyH_take (i := 4) (v := (.bool false)) rfl (by kernel_rfl) (by kernel_rfl) (by kernel_rfl) (fun _ _ _ h => h) (Or.inl ⟨by kernel_rfl, fun w' hSw => (by go_simp)⟩) (by assumption) ?_
    try simp only [Act.put, List.getElem_toArray, List.getElem_cons_zero, List.getElem_cons_succ, List.setIfInBounds_toArray, List.set_cons_zero, List.set_cons_succ]
    refine wpAnyH_take (i := 5) (v := (.bool false)) rfl (by kernel_rfl) (by kernel_rfl) (by kernel_rfl) (fun _ _ _ h => h) (Or.inl ⟨by kernel_rfl, fun w' hSw => (by go_simp)⟩) (by assumption) ?_
    try simp only [Act.put, List.getElem_toArray, List.getElem_cons_zero, List.getElem_cons_succ, List.setIfInBounds_toArray, List.set_cons_zero, List.set_cons_succ]
    refine wpAnyH_take (i := 6) (v := (.agg #[.bool n.1, .slice va n.2.1.length vc, .int .i64 n.2.2])) rfl (by kernel_rfl) (by kernel_rfl) (by kernel_rfl) (fun _ _ _ h => h) (yieldsIf_load_mid (by kernel_rfl) 43 _ rfl w.heap.size 0 rfl [.bool n.1, .slice va n.2.1.length vc, .int .i64 n.2.2] _ (fun W hW => rng3 hW.1) Tryz.underlying43 rfl (by kernel_rfl)) (by assumption) ?_
    try simp only [Act.put, List.getElem_toArray, List.getElem_cons_zero, List.getElem_cons_succ, List.setIfInBounds_toArray, List.set_cons_zero, List.set_cons_succ]
    refine wpAnyH_take (i := 7) (v := (.slice (some ⟨w.heap.size + 1 + 1, 0, none⟩) 24 24)) rfl (by kernel_rfl) (by kernel_rfl) (by kernel_rfl) (fun _ _ _ h => h) (Or.inl ⟨by kernel_rfl, fun w' hSw => (by go_simp)⟩) (by assumption) ?_
    try simp only [Act.put, List.getElem_toArray, List.getElem_cons_zero, List.getElem_cons_succ, List.setIfInBounds_toArray, List.set_cons_zero, List.set_cons_succ]
    refine wpAnyH_take (i := 8) (v := (.int .i64 16)) rfl (by kernel_rfl) (by kernel_rfl) (by kernel_rfl) (fun _ _ _ h => h) (Or.inl ⟨by kernel_rfl, fun w' hSw => (by go_simp)⟩) (by assumption) ?_
    try simp only [Act.put, List.getElem_toArray, List.getElem_cons_zero, List.getElem_cons_succ, List.setIfInBounds_toArray, List.set_cons_zero, List.set_cons_succ]
    refine wpAnyH_take (i := 9) (v := (.pointer (some ⟨w.heap.size + 1 + 1, 16, none⟩))) rfl (by kernel_rfl) (by kernel_rfl) (by kernel_rfl) (fun _ _ _ h => h) (Or.inl ⟨by kernel_rfl, fun w' hSw => (by go_simp)⟩) (by assumption) ?_
    try simp only [Act.put, List.getElem_toArray, List.getElem_cons_zero, List.getElem_cons_succ, List.setIfInBounds_toArray, List.set_cons_zero, List.set_cons_succ]
    refine wpAnyH_take (i := 10) (v := (.string ⟨#[57, 50, 50, 51, 51, 55, 50, 48, 51, 54, 56, 53, 52, 55, 55, 53, 56, 48, 55]⟩)) rfl (by kernel_rfl) (by kernel_rfl) (by kernel_rfl) (fun _ _ _ h => h) (Or.inl ⟨by kernel_rfl, fun w' hSw => (by have hc : w'.cell? ⟨w.heap.size + 1 + 1, 16, none⟩ = some (.string ⟨#[57, 50, 50, 51, 51, 55, 50, 48, 51, 54, 56, 53, 52, 55, 55, 53, 56, 48, 55]⟩) := row_cell hSw.2.2; go_simp)⟩) (by assumption) ?_
    try simp only [Act.put, List.getElem_toArray, List.getElem_cons_zero, List.getElem_cons_succ, List.setIfInBounds_toArray, List.set_cons_zero, List.set_cons_succ]
    refine wpAnyH_ready (rs := [11]) (by kernel_rfl) (by simp) ?_
    refine AllReadyH.cons rfl (fun K hK => ?_) AllReadyH.nil
    go_simp
    refine Calls.mono (bound_r (n := (false, [9, 2, 2, 3, 3, 7, 2, 0, 3, 6, 8, 5, 4, 7, 7, 5, 8, 0, 7], 0)) ⟨#[57, 50, 50, 51, 51, 55, 50, 48, 51, 54, 56, 53, 52, 55, 55, 53, 56, 48, 55]⟩ _ (by decide) pb4) ?_
    rintro e w9 ⟨rv, rfl, hb9, hrv⟩
    have hbb := HB.out.trans (hb9.mono HB.out.size)
    have hS9 := HK.out _ hbb
    clear HB hHeld
    have HB : Hid _ := hbb
    have HRV : Hid _ := hrv
    clear hbb hb9 hrv
    go_wp2_with fail
    refine hK.out _ _ hS9 (fun hHeld => ?_)
    clear hK K hS9
    try simp only [Act.put, List.getElem_toArray, List.getElem_cons_zero, List.getElem_cons_succ, List.setIfInBounds_toArray, List.set_cons_zero, List.set_cons_succ]
    refine wpAnyH_ready (rs := [12]) (by kernel_rfl) (by simp) ?_
    refine AllReadyH.cons rfl (fun K hK => ?_) AllReadyH.nil
    go_simp
    have hcr := Dc.cmp_r (HN.out _ HB.out) HRV.out
    refine Calls.mono hcr ?_
    clear hcr
    rintro e w9 ⟨rfl, hb9⟩
    have hbb := HB.out.trans (hb9.mono HB.out.size)
    have hS9 := HK.out _ hbb
    clear HB hHeld
    have HB : Hid _ := hbb
    clear hbb hb9
    rw [HCh]
    go_wp2_with fail
    refine hK.out _ _ hS9 (fun hHeld => ?_)
    clear hK K hS9
    try simp only [Act.put, List.getElem_toArray, List.getElem_cons_zero, List.getElem_cons_succ, List.setIfInBounds_toArray, List.set_cons_zero, List.set_cons_succ]
    refine wpAnyH_take (i := 13) (v := (.bool true)) rfl (by kernel_rfl) (by kernel_rfl) (by kernel_rfl) (fun _ _ _ h => h) (Or.inl ⟨by kernel_rfl, fun w' hSw => (by go_simp)⟩) (by assumption) ?_
    try simp only [Act.put, List.getElem_toArray, List.getElem_cons_zero, List.getElem_cons_succ, List.setIfInBounds_toArray, List.set_cons_zero, List.set_cons_succ]
    refine wpAnyH_take (i := 14) (v := (.bool true)) rfl (by kernel_rfl) (by kernel_rfl) (by kernel_rfl) (fun _ _ _ h => h) (Or.inl ⟨by kernel_rfl, fun w' hSw => (by go_simp)⟩) (by assumption) ?_
    try simp only [Act.put, List.getElem_toArray, List.getElem_cons_zero, List.getElem_cons_succ, List.setIfInBounds_toArray, List.set_cons_zero, List.set_cons_succ]
    refine wpAnyH_take (i := 15) (v := (.bool true)) rfl (by kernel_rfl) (by kernel_rfl) (by kernel_rfl) (fun _ _ _ h => h) (Or.inl ⟨by kernel_rfl, fun w' hSw => (by go_simp)⟩) (by assumption) ?_
    try simp only [Act.put, List.getElem_toArray, List.getElem_cons_zero, List.getElem_cons_succ, List.setIfInBounds_toArray, List.set_cons_zero, List.set_cons_succ]
    refine wpAnyH_done (by kernel_rfl) ?_ _
    go_wp2_with fail
    go_ret
    exact ⟨ret_b HE.out.symm, HU.out.trans (HB.out.mono HU.out.size)⟩
  · have hdd : decide (d ≤ 0) = false := by simpa using hd
    have HE : Hid (wiB 16 (Dc.nv n 0) = false) := by
      show _ = _
      have h2 := HW.out.2
      rw [HCh] at h2
      have h1 := HW.out.1
      rw [HCl] at h1
      have h3 := HCN.out
      unfold wiB
      simp
      omega
    clear hd
    have HB1 : Hid _ := HB.out
    clear HB
    have HB : Hid (Below U.heap.size U w9.drew) := HB1.out.trans ((Dc.Below.drewN' 1).mono HB1.out.size)
    refine wp_region_held_drew (S := fun W => W.heap[w.heap.size]? = some (.cells #[.bool n.1, .slice va n.2.1.length vc, .int .i64 n.2.2] 43 (0, 0)) ∧ W.heap[w.heap.size + 1]? = some (.cells loT 9 (0, 0)) ∧ W.heap[w.heap.size + 1 + 1]? = some (.cells hiT 9 (0, 0))) (by kernel_rfl) (HK.out _ HB.out) (fun hHeld => ?_)
    refine wpAnyH_take (i := 0) (v := (.slice (some ⟨w.heap.size + 1 + 1, 0, none⟩) 24 24)) rfl (by kernel_rfl) (by kernel_rfl) (by kernel_rfl) (fun _ _ _ h => h) (Or.inl ⟨by kernel_rfl, fun w' hSw => (by go_simp)⟩) (by assumption) ?_
    try simp only [Act.put, List.getElem_toArray, List.getElem_cons_zero, List.getElem_cons_succ, List.setIfInBounds_toArray, List.set_cons_zero, List.set_cons_succ]
    refine wpAnyH_take (i := 1) (v := (.int .i64 16)) rfl (by kernel_rfl) (by kernel_rfl) (by kernel_rfl) (fun _ _ _ h => h) (Or.inl ⟨by kernel_rfl, fun w' hSw => (by go_simp)⟩) (by assumption) ?_
    try simp only [Act.put, List.getElem_toArray, List.getElem_cons_zero, List.getElem_cons_succ, List.setIfInBounds_toArray, List.set_cons_zero, List.set_cons_succ]
    refine wpAnyH_take (i := 2) (v := (.pointer (some ⟨w.heap.size + 1 + 1, 16, none⟩))) rfl (by kernel_rfl) (by kernel_rfl) (by kernel_rfl) (fun _ _ _ h => h) (Or.inl ⟨by kernel_rfl, fun w' hSw => (by go_simp)⟩) (by assumption) ?_
    try simp only [Act.put, List.getElem_toArray, List.getElem_cons_zero, List.getElem_cons_succ, List.setIfInBounds_toArray, List.set_cons_zero, List.set_cons_succ]
    refine wpAnyH_take (i := 3) (v := (.string ⟨#[57, 50, 50, 51, 51, 55, 50, 48, 51, 54, 56, 53, 52, 55, 55, 53, 56, 48, 55]⟩)) rfl (by kernel_rfl) (by kernel_rfl) (by kernel_rfl) (fun _ _ _ h => h) (Or.inl ⟨by kernel_rfl, fun w' hSw => (by have hc : w'.cell? ⟨w.heap.size + 1 + 1, 16, none⟩ = some (.string ⟨#[57, 50, 50, 51, 51, 55, 50, 48, 51, 54, 56, 53, 52, 55, 55, 53, 56, 48, 55]⟩) := row_cell hSw.2.2; go_simp)⟩) (by assumption) ?_
    try simp only [Act.put, List.getElem_toArray, List.getElem_cons_zero, List.getElem_cons_succ, List.setIfInBounds_toArray, List.set_cons_zero, List.set_cons_succ]
    refine wpAnyH_take (i := 4) (v := (.bool false)) rfl (by kernel_rfl) (by kernel_rfl) (by kernel_rfl) (fun _ _ _ h => h) (Or.inl ⟨by kernel_rfl, fun w' hSw => (by go_simp)⟩) (by assumption) ?_
    try simp only [Act.put, List.getElem_toArray, List.getElem_cons_zero, List.getElem_cons_succ, List.setIfInBounds_toArray, List.set_cons_zero, List.set_cons_succ]
    refine wpAnyH_take (i := 5) (v := (.bool false)) rfl (by kernel_rfl) (by kernel_rfl) (by kernel_rfl) (fun _ _ _ h => h) (Or.inl ⟨by kernel_rfl, fun w' hSw => (by go_simp)⟩) (by assumption) ?_
    try simp only [Act.put, List.getElem_toArray, List.getElem_cons_zero, List.getElem_cons_succ, List.setIfInBounds_toArray, List.set_cons_zero, List.set_cons_succ]
    refine wpAnyH_take (i := 6) (v := (.agg #[.bool n.1, .slice va n.2.1.length vc, .int .i64 n.2.2])) rfl (by kernel_rfl) (by kernel_rfl) (by kernel_rfl) (fun _ _ _ h => h) (yieldsIf_load_mid (by kernel_rfl) 43 _ rfl w.heap.size 0 rfl [.bool n.1, .slice va n.2.1.length vc, .int .i64 n.2.2] _ (fun W hW => rng3 hW.1) Tryz.underlying43 rfl (by kernel_rfl)) (by assumption) ?_
    try simp only [Act.put, List.getElem_toArray, List.getElem_cons_zero, List.getElem_cons_succ, List.setIfInBounds_toArray, List.set_cons_zero, List.set_cons_succ]
    refine wpAnyH_take (i := 7) (v := (.slice (some ⟨w.heap.size + 1 + 1, 0, none⟩) 24 24)) rfl (by kernel_rfl) (by kernel_rfl) (by kernel_rfl) (fun _ _ _ h => h) (Or.inl ⟨by kernel_rfl, fun w' hSw => (by go_simp)⟩) (by assumption) ?_
    try simp only [Act.put, List.getElem_toArray, List.getElem_cons_zero, List.getElem_cons_succ, List.setIfInBounds_toArray, List.set_cons_zero, List.set_cons_succ]
    refine wpAnyH_take (i := 8) (v := (.int .i64 16)) rfl (by kernel_rfl) (by kernel_rfl) (by kernel_rfl) (fun _ _ _ h => h) (Or.inl ⟨by kernel_rfl, fun w' hSw => (by go_simp)⟩) (by assumption) ?_
    try simp only [Act.put, List.getElem_toArray, List.getElem_cons_zero, List.getElem_cons_succ, List.setIfInBounds_toArray, List.set_cons_zero, List.set_cons_succ]
    refine wpAnyH_take (i := 9) (v := (.pointer (some ⟨w.heap.size + 1 + 1, 16, none⟩))) rfl (by kernel_rfl) (by kernel_rfl) (by kernel_rfl) (fun _ _ _ h => h) (Or.inl ⟨by kernel_rfl, fun w' hSw => (by go_simp)⟩) (by assumption) ?_
    try simp only [Act.put, List.getElem_toArray, List.getElem_cons_zero, List.getElem_cons_succ, List.setIfInBounds_toArray, List.set_cons_zero, List.set_cons_succ]
    refine wpAnyH_take (i := 10) (v := (.string ⟨#[57, 50, 50, 51, 51, 55, 50, 48, 51, 54, 56, 53, 52, 55, 55, 53, 56, 48, 55]⟩)) rfl (by kernel_rfl) (by kernel_rfl) (by kernel_rfl) (fun _ _ _ h => h) (Or.inl ⟨by kernel_rfl, fun w' hSw => (by have hc : w'.cell? ⟨w.heap.size + 1 + 1, 16, none⟩ = some (.string ⟨#[57, 50, 50, 51, 51, 55, 50, 48, 51, 54, 56, 53, 52, 55, 55, 53, 56, 48, 55]⟩) := row_cell hSw.2.2; go_simp)⟩) (by assumption) ?_
    try simp only [Act.put, List.getElem_toArray, List.getElem_cons_zero, List.getElem_cons_succ, List.setIfInBounds_toArray, List.set_cons_zero, List.set_cons_succ]
    refine wpAnyH_ready (rs := [11]) (by kernel_rfl) (by simp) ?_
    refine AllReadyH.cons rfl (fun K hK => ?_) AllReadyH.nil
    go_simp
    refine Calls.mono (bound_r (n := (false, [9, 2, 2, 3, 3, 7, 2, 0, 3, 6, 8, 5, 4, 7, 7, 5, 8, 0, 7], 0)) ⟨#[57, 50, 50, 51, 51, 55, 50, 48, 51, 54, 56, 53, 52, 55, 55, 53, 56, 48, 55]⟩ _ (by decide) pb4) ?_
    rintro e w9 ⟨rv, rfl, hb9, hrv⟩
    have hbb := HB.out.trans (hb9.mono HB.out.size)
    have hS9 := HK.out _ hbb
    clear HB hHeld
    have HB : Hid _ := hbb
    have HRV : Hid _ := hrv
    clear hbb hb9 hrv
    go_wp2_with fail
    refine hK.out _ _ hS9 (fun hHeld => ?_)
    clear hK K hS9
    try simp only [Act.put, List.getElem_toArray, List.getElem_cons_zero, List.getElem_cons_succ, List.setIfInBounds_toArray, List.set_cons_zero, List.set_cons_succ]
    refine wpAnyH_ready (rs := [12]) (by kernel_rfl) (by simp) ?_
    refine AllReadyH.cons rfl (fun K hK => ?_) AllReadyH.nil
    go_simp
    have hcr := Dc.cmp_r (HN.out _ HB.out) HRV.out
    refine Calls.mono hcr ?_
    clear hcr
    rintro e w9 ⟨rfl, hb9⟩
    have hbb := HB.out.trans (hb9.mono HB.out.size)
    have hS9 := HK.out _ hbb
    clear HB hHeld
    have HB : Hid _ := hbb
    clear hbb hb9
    rw [HCh]
    go_wp2_with fail
    refine hK.out _ _ hS9 (fun hHeld => ?_)
    clear hK K hS9
    try simp only [Act.put, List.getElem_toArray, List.getElem_cons_zero, List.getElem_cons_succ, List.setIfInBounds_toArray, List.set_cons_zero, List.set_cons_succ]
    refine wpAnyH_take (i := 13) (v := (.bool false)) rfl (by kernel_rfl) (by kernel_rfl) (by kernel_rfl) (fun _ _ _ h => h) (Or.inl ⟨by kernel_rfl, fun w' hSw => (by go_simp)⟩) (by assumption) ?_
    try simp only [Act.put, List.getElem_toArray, List.getElem_cons_zero, List.getElem_cons_succ, List.setIfInBounds_toArray, List.set_cons_zero, List.set_cons_succ]
    refine wpAnyH_take (i := 14) (v := (.bool false)) rfl (by kernel_rfl) (by kernel_rfl) (by kernel_rfl) (fun _ _ _ h => h) (Or.inl ⟨by kernel_rfl, fun w' hSw => (by go_simp)⟩) (by assumption) ?_
    try simp only [Act.put, List.getElem_toArray, List.getElem_cons_zero, List.getElem_cons_succ, List.setIfInBounds_toArray, List.set_cons_zero, List.set_cons_succ]
    refine wpAnyH_take (i := 15) (v := (.bool false)) rfl (by kernel_rfl) (by kernel_rfl) (by kernel_rfl) (fun _ _ _ h => h) (Or.inl ⟨by kernel_rfl, fun w' hSw => (by go_simp)⟩) (by assumption) ?_
    try simp only [Act.put, List.getElem_toArray, List.getElem_cons_zero, List.getElem_cons_succ, List.setIfInBounds_toArray, List.set_cons_zero, List.set_cons_succ]
    refine wpAnyH_done (by kernel_rfl) ?_ _
    go_wp2_with fail
    go_ret
    exact ⟨ret_b HE.out.symm, HU.out.trans (HB.out.mono HU.out.size)⟩
set_option maxRecDepth 100000 in
set_option maxHeartbeats 6400000 in
theorem within_17 {w : World} {v : Value} {n : Dc.Nm} (hn : Dc.NmR w v n) (h0 : n.2.2 = 0) : Calls Tryz.prog 43 #[.int .i64 17, Dc.nmV n.1 v n.2.2] w fun e w' => e = .returned (.bool (wiB 17 (Dc.nv n 0))) ∧ Below w.heap.size w w' := by
  have hl := (cmp_whole hn.cn h0 pb5c rfl).1
  rw [pb5v] at hl
  have hh := (cmp_whole hn.cn h0 pb6c rfl).2
  rw [pb6v] at hh
  have HW : Hid ((Dc.cmpS n (true, [2, 1, 4, 7, 4, 8, 3, 6, 4, 8], 0) < 0 ↔ Dc.nv n 0 < -2147483648) ∧ (Dc.cmpS n (false, [2, 1, 4, 7, 4, 8, 3, 6, 4, 7], 0) ≤ 0 ↔ Dc.nv n 0 ≤ 2147483647)) := ⟨hl, hh⟩
  clear hl hh
  obtain ⟨va, vc, rfl, _⟩ := hn.bt.form
  have hx := M.nw_heap w (.cells #[.bool n.1, .slice va n.2.1.length vc, .int .i64 n.2.2] 43)
  have hb1 : Below w.heap.size w (((w.alloc (.cells #[.bool n.1, .slice va n.2.1.length vc, .int .i64 n.2.2] 43)).alloc (.cells loT 9)).alloc (.cells hiT 9)) := bel3 w _ _ _
  have hS := blocks3 w (.cells #[.bool n.1, .slice va n.2.1.length vc, .int .i64 n.2.2] 43) (.cells loT 9) (.cells hiT 9)
  obtain ⟨U, hU⟩ : ∃ U, ((w.alloc (.cells #[.bool n.1, .slice va n.2.1.length vc, .int .i64 n.2.2] 43)).alloc (.cells loT 9)).alloc (.cells hiT 9) = U := ⟨_, rfl⟩
  rw [hU] at hb1 hS
  have HN : Hid _ := fun W (hW : Below U.heap.size U W) => hn.below (hb1.trans (hW.mono hb1.size))
  have HK : Hid (∀ W, Below U.heap.size U W → _ ∧ _ ∧ _) := fun W hW => And.intro ((hW.block _ (Dc.lt_of hS.1)).trans hS.1) (And.intro ((hW.block _ (Dc.lt_of hS.2.1)).trans hS.2.1) ((hW.block _ (Dc.lt_of hS.2.2)).trans hS.2.2))
  have HU : Hid _ := hb1
  clear hx hb1 hS hn h0
  obtain ⟨c, HCl⟩ : ∃ c, Dc.cmpS n (true, [2, 1, 4, 7, 4, 8, 3, 6, 4, 8], 0) = c := ⟨_, rfl⟩
  obtain ⟨d, HCh⟩ : ∃ d, Dc.cmpS n (false, [2, 1, 4, 7, 4, 8, 3, 6, 4, 7], 0) = d := ⟨_, rfl⟩
  go_enter Tryz.func43, Tryz.ntmps43
  go_upto_region 3 with fail
  try rw [show ((w.alloc (.cells #[.bool n.1, .slice va n.2.1.length vc, .int .i64 n.2.2] 43)).alloc (.cells #[.string ⟨#[]⟩, .string ⟨#[]⟩, .string ⟨#[]⟩, .string ⟨#[]⟩, .string ⟨#[]⟩, .string ⟨#[]⟩, .string ⟨#[]⟩, .string ⟨#[]⟩, .string ⟨#[]⟩, .string ⟨#[]⟩, .string ⟨#[]⟩, .string ⟨#[]⟩, .string ⟨#[]⟩, .string ⟨#[]⟩, .string ⟨#[48]⟩, .string ⟨#[49]⟩, .string ⟨#[45, 57, 50, 50, 51, 51, 55, 50, 48, 51, 54, 56, 53, 52, 55, 55, 53, 56, 48, 56]⟩, .string ⟨#[45, 50, 49, 52, 55, 52, 56, 51, 54, 52, 56]⟩, .string ⟨#[45, 51, 50, 55, 54, 56]⟩, .string ⟨#[45, 49, 50, 56]⟩, .string ⟨#[48]⟩, .string ⟨#[48]⟩, .string ⟨#[48]⟩, .string ⟨#[48]⟩] 9)).alloc (.cells #[.string ⟨#[]⟩, .string ⟨#[]⟩, .string ⟨#[]⟩, .string ⟨#[]⟩, .string ⟨#[]⟩, .string ⟨#[]⟩, .string ⟨#[]⟩, .string ⟨#[]⟩, .string ⟨#[]⟩, .string ⟨#[]⟩, .string ⟨#[]⟩, .string ⟨#[]⟩, .string ⟨#[48]⟩, .string ⟨#[45, 49]⟩, .string ⟨#[]⟩, .string ⟨#[]⟩, .string ⟨#[57, 50, 50, 51, 51, 55, 50, 48, 51, 54, 56, 53, 52, 55, 55, 53, 56, 48, 55]⟩, .string ⟨#[50, 49, 52, 55, 52, 56, 51, 54, 52, 55]⟩, .string ⟨#[51, 50, 55, 54, 55]⟩, .string ⟨#[49, 50, 55]⟩, .string ⟨#[49, 56, 52, 52, 54, 55, 52, 52, 48, 55, 51, 55, 48, 57, 53, 53, 49, 54, 49, 53]⟩, .string ⟨#[52, 50, 57, 52, 57, 54, 55, 50, 57, 53]⟩, .string ⟨#[54, 53, 53, 51, 53]⟩, .string ⟨#[50, 53, 53]⟩] 9) = U from hU]
  clear hU
  have HB : Hid (Below U.heap.size U U.drew) := Dc.Below.drewN' 1
  by_cases hc : c < 0
  · have hcd : decide (c < 0) = true := by simpa using hc
    have HE : Hid (wiB 17 (Dc.nv n 0) = false) := by
      show _ = _
      have := HW.out.1
      rw [HCl] at this
      unfold wiB
      simp
      omega
    clear hc
    refine wp_region_held_drew (S := fun W => W.heap[w.heap.size]? = some (.cells #[.bool n.1, .slice va n.2.1.length vc, .int .i64 n.2.2] 43 (0, 0)) ∧ W.heap[w.heap.size + 1]? = some (.cells loT 9 (0, 0)) ∧ W.heap[w.heap.size + 1 + 1]? = some (.cells hiT 9 (0, 0))) (by kernel_rfl) (HK.out _ HB.out) (fun hHeld => ?_)
    refine wpAnyH_take (i := 0) (v := (.slice (some ⟨w.heap.size + 1, 0, none⟩) 24 24)) rfl (by kernel_rfl) (by kernel_rfl) (by kernel_rfl) (fun _ _ _ h => h) (Or.inl ⟨by kernel_rfl, fun w' hSw => (by go_simp)⟩) (by assumption) ?_
    try simp only [Act.put, List.getElem_toArray, List.getElem_cons_zero, List.getElem_cons_succ, List.setIfInBounds_toArray, List.set_cons_zero, List.set_cons_succ]
    refine wpAnyH_take (i := 1) (v := (.int .i64 17)) rfl (by kernel_rfl) (by kernel_rfl) (by kernel_rfl) (fun _ _ _ h => h) (Or.inl ⟨by kernel_rfl, fun w' hSw => (by go_simp)⟩) (by assumption) ?_
    try simp only [Act.put, List.getElem_toArray, List.getElem_cons_zero, List.getElem_cons_succ, List.setIfInBounds_toArray, List.set_cons_zero, List.set_cons_succ]
    refine wpAnyH_take (i := 2) (v := (.pointer (some ⟨w.heap.size + 1, 17, none⟩))) rfl (by kernel_rfl) (by kernel_rfl) (by kernel_rfl) (fun _ _ _ h => h) (Or.inl ⟨by kernel_rfl, fun w' hSw => (by go_simp)⟩) (by assumption) ?_
    try simp only [Act.put, List.getElem_toArray, List.getElem_cons_zero, List.getElem_cons_succ, List.setIfInBounds_toArray, List.set_cons_zero, List.set_cons_succ]
    refine wpAnyH_take (i := 3) (v := (.string ⟨#[45, 50, 49, 52, 55, 52, 56, 51, 54, 52, 56]⟩)) rfl (by kernel_rfl) (by kernel_rfl) (by kernel_rfl) (fun _ _ _ h => h) (Or.inl ⟨by kernel_rfl, fun w' hSw => (by have hc : w'.cell? ⟨w.heap.size + 1, 17, none⟩ = some (.string ⟨#[45, 50, 49, 52, 55, 52, 56, 51, 54, 52, 56]⟩) := row_cell hSw.2.1; go_simp)⟩) (by assumption) ?_
    try simp only [Act.put, List.getElem_toArray, List.getElem_cons_zero, List.getElem_cons_succ, List.setIfInBounds_toArray, List.set_cons_zero, List.set_cons_succ]
    refine wpAnyH_take (i := 4) (v := (.bool true)) rfl (by kernel_rfl) (by kernel_rfl) (by kernel_rfl) (fun _ _ _ h => h) (Or.inl ⟨by kernel_rfl, fun w' hSw => (by go_simp)⟩) (by assumption) ?_
    try simp only [Act.put, List.getElem_toArray, List.getElem_cons_zero, List.getElem_cons_succ, List.setIfInBounds_toArray, List.set_cons_zero, List.set_cons_succ]
    refine wpAnyH_take (i := 5) (v := (.bool true)) rfl (by kernel_rfl) (by kernel_rfl) (by kernel_rfl) (fun _ _ _ h => h) (Or.inl ⟨by kernel_rfl, fun w' hSw => (by go_simp)⟩) (by assumption) ?_
    try simp only [Act.put, List.getElem_toArray, List.getElem_cons_zero, List.getElem_cons_succ, List.setIfInBounds_toArray, List.set_cons_zero, List.set_cons_succ]
    refine wpAnyH_take (i := 6) (v := (.agg #[.bool n.1, .slice va n.2.1.length vc, .int .i64 n.2.2])) rfl (by kernel_rfl) (by kernel_rfl) (by kernel_rfl) (fun _ _ _ h => h) (yieldsIf_load_mid (by kernel_rfl) 43 _ rfl w.heap.size 0 rfl [.bool n.1, .slice va n.2.1.length vc, .int .i64 n.2.2] _ (fun W hW => rng3 hW.1) Tryz.underlying43 rfl (by kernel_rfl)) (by assumption) ?_
    try simp only [Act.put, List.getElem_toArray, List.getElem_cons_zero, List.getElem_cons_succ, List.setIfInBounds_toArray, List.set_cons_zero, List.set_cons_succ]
    refine wpAnyH_take (i := 7) (v := (.slice (some ⟨w.heap.size + 1, 0, none⟩) 24 24)) rfl (by kernel_rfl) (by kernel_rfl) (by kernel_rfl) (fun _ _ _ h => h) (Or.inl ⟨by kernel_rfl, fun w' hSw => (by go_simp)⟩) (by assumption) ?_
    try simp only [Act.put, List.getElem_toArray, List.getElem_cons_zero, List.getElem_cons_succ, List.setIfInBounds_toArray, List.set_cons_zero, List.set_cons_succ]
    refine wpAnyH_take (i := 8) (v := (.int .i64 17)) rfl (by kernel_rfl) (by kernel_rfl) (by kernel_rfl) (fun _ _ _ h => h) (Or.inl ⟨by kernel_rfl, fun w' hSw => (by go_simp)⟩) (by assumption) ?_
    try simp only [Act.put, List.getElem_toArray, List.getElem_cons_zero, List.getElem_cons_succ, List.setIfInBounds_toArray, List.set_cons_zero, List.set_cons_succ]
    refine wpAnyH_take (i := 9) (v := (.pointer (some ⟨w.heap.size + 1, 17, none⟩))) rfl (by kernel_rfl) (by kernel_rfl) (by kernel_rfl) (fun _ _ _ h => h) (Or.inl ⟨by kernel_rfl, fun w' hSw => (by go_simp)⟩) (by assumption) ?_
    try simp only [Act.put, List.getElem_toArray, List.getElem_cons_zero, List.getElem_cons_succ, List.setIfInBounds_toArray, List.set_cons_zero, List.set_cons_succ]
    refine wpAnyH_take (i := 10) (v := (.string ⟨#[45, 50, 49, 52, 55, 52, 56, 51, 54, 52, 56]⟩)) rfl (by kernel_rfl) (by kernel_rfl) (by kernel_rfl) (fun _ _ _ h => h) (Or.inl ⟨by kernel_rfl, fun w' hSw => (by have hc : w'.cell? ⟨w.heap.size + 1, 17, none⟩ = some (.string ⟨#[45, 50, 49, 52, 55, 52, 56, 51, 54, 52, 56]⟩) := row_cell hSw.2.1; go_simp)⟩) (by assumption) ?_
    try simp only [Act.put, List.getElem_toArray, List.getElem_cons_zero, List.getElem_cons_succ, List.setIfInBounds_toArray, List.set_cons_zero, List.set_cons_succ]
    refine wpAnyH_ready (rs := [11]) (by kernel_rfl) (by simp) ?_
    refine AllReadyH.cons rfl (fun K hK => ?_) AllReadyH.nil
    go_simp
    refine Calls.mono (bound_r (n := (true, [2, 1, 4, 7, 4, 8, 3, 6, 4, 8], 0)) ⟨#[45, 50, 49, 52, 55, 52, 56, 51, 54, 52, 56]⟩ _ (by decide) pb5) ?_
    rintro e w9 ⟨rv, rfl, hb9, hrv⟩
    have hbb := HB.out.trans (hb9.mono HB.out.size)
    have hS9 := HK.out _ hbb
    clear HB hHeld
    have HB : Hid _ := hbb
    have HRV : Hid _ := hrv
    clear hbb hb9 hrv
    go_wp2_with fail
    refine hK.out _ _ hS9 (fun hHeld => ?_)
    clear hK K hS9
    try simp only [Act.put, List.getElem_toArray, List.getElem_cons_zero, List.getElem_cons_succ, List.setIfInBounds_toArray, List.set_cons_zero, List.set_cons_succ]
    refine wpAnyH_ready (rs := [12]) (by kernel_rfl) (by simp) ?_
    refine AllReadyH.cons rfl (fun K hK => ?_) AllReadyH.nil
    go_simp
    have hcr := Dc.cmp_r (HN.out _ HB.out) HRV.out
    refine Calls.mono hcr ?_
    clear hcr
    rintro e w9 ⟨rfl, hb9⟩
    have hbb := HB.out.trans (hb9.mono HB.out.size)
    have hS9 := HK.out _ hbb
    clear HB hHeld
    have HB : Hid _ := hbb
    clear hbb hb9
    rw [HCl]
    go_wp2_with fail
    refine hK.out _ _ hS9 (fun hHeld => ?_)
    clear hK K hS9
    try simp only [Act.put, List.getElem_toArray, List.getElem_cons_zero, List.getElem_cons_succ, List.setIfInBounds_toArray, List.set_cons_zero, List.set_cons_succ]
    refine wpAnyH_take (i := 13) (v := (.bool true)) rfl (by kernel_rfl) (by kernel_rfl) (by kernel_rfl) (fun _ _ _ h => h) (Or.inl ⟨by kernel_rfl, fun w' hSw => (by go_simp)⟩) (by assumption) ?_
    try simp only [Act.put, List.getElem_toArray, List.getElem_cons_zero, List.getElem_cons_succ, List.setIfInBounds_toArray, List.set_cons_zero, List.set_cons_succ]
    refine wpAnyH_take (i := 14) (v := (.bool true)) rfl (by kernel_rfl) (by kernel_rfl) (by kernel_rfl) (fun _ _ _ h => h) (Or.inl ⟨by kernel_rfl, fun w' hSw => (by go_simp)⟩) (by assumption) ?_
    try simp only [Act.put, List.getElem_toArray, List.getElem_cons_zero, List.getElem_cons_succ, List.setIfInBounds_toArray, List.set_cons_zero, List.set_cons_succ]
    refine wpAnyH_done (by kernel_rfl) ?_ _
    clear hHeld
    go_wp2_with fail
    go_ret
    exact ⟨ret_b HE.out.symm, HU.out.trans (HB.out.mono HU.out.size)⟩
  have hcd : decide (c < 0) = false := by simpa using hc
  have HCN : Hid (¬ c < 0) := hc
  clear hc
  refine wp_region_held_drew (S := fun W => W.heap[w.heap.size]? = some (.cells #[.bool n.1, .slice va n.2.1.length vc, .int .i64 n.2.2] 43 (0, 0)) ∧ W.heap[w.heap.size + 1]? = some (.cells loT 9 (0, 0)) ∧ W.heap[w.heap.size + 1 + 1]? = some (.cells hiT 9 (0, 0))) (by kernel_rfl) (HK.out _ HB.out) (fun hHeld => ?_)
  refine wpAnyH_take (i := 0) (v := (.slice (some ⟨w.heap.size + 1, 0, none⟩) 24 24)) rfl (by kernel_rfl) (by kernel_rfl) (by kernel_rfl) (fun _ _ _ h => h) (Or.inl ⟨by kernel_rfl, fun w' hSw => (by go_simp)⟩) (by assumption) ?_
  try simp only [Act.put, List.getElem_toArray, List.getElem_cons_zero, List.getElem_cons_succ, List.setIfInBounds_toArray, List.set_cons_zero, List.set_cons_succ]
  refine wpAnyH_take (i := 1) (v := (.int .i64 17)) rfl (by kernel_rfl) (by kernel_rfl) (by kernel_rfl) (fun _ _ _ h => h) (Or.inl ⟨by kernel_rfl, fun w' hSw => (by go_simp)⟩) (by assumption) ?_
  try simp only [Act.put, List.getElem_toArray, List.getElem_cons_zero, List.getElem_cons_succ, List.setIfInBounds_toArray, List.set_cons_zero, List.set_cons_succ]
  refine wpAnyH_take (i := 2) (v := (.pointer (some ⟨w.heap.size + 1, 17, none⟩))) rfl (by kernel_rfl) (by kernel_rfl) (by kernel_rfl) (fun _ _ _ h => h) (Or.inl ⟨by kernel_rfl, fun w' hSw => (by go_simp)⟩) (by assumption) ?_
  try simp only [Act.put, List.getElem_toArray, List.getElem_cons_zero, List.getElem_cons_succ, List.setIfInBounds_toArray, List.set_cons_zero, List.set_cons_succ]
  refine wpAnyH_take (i := 3) (v := (.string ⟨#[45, 50, 49, 52, 55, 52, 56, 51, 54, 52, 56]⟩)) rfl (by kernel_rfl) (by kernel_rfl) (by kernel_rfl) (fun _ _ _ h => h) (Or.inl ⟨by kernel_rfl, fun w' hSw => (by have hc : w'.cell? ⟨w.heap.size + 1, 17, none⟩ = some (.string ⟨#[45, 50, 49, 52, 55, 52, 56, 51, 54, 52, 56]⟩) := row_cell hSw.2.1; go_simp)⟩) (by assumption) ?_
  try simp only [Act.put, List.getElem_toArray, List.getElem_cons_zero, List.getElem_cons_succ, List.setIfInBounds_toArray, List.set_cons_zero, List.set_cons_succ]
  refine wpAnyH_take (i := 4) (v := (.bool true)) rfl (by kernel_rfl) (by kernel_rfl) (by kernel_rfl) (fun _ _ _ h => h) (Or.inl ⟨by kernel_rfl, fun w' hSw => (by go_simp)⟩) (by assumption) ?_
  try simp only [Act.put, List.getElem_toArray, List.getElem_cons_zero, List.getElem_cons_succ, List.setIfInBounds_toArray, List.set_cons_zero, List.set_cons_succ]
  refine wpAnyH_take (i := 5) (v := (.bool true)) rfl (by kernel_rfl) (by kernel_rfl) (by kernel_rfl) (fun _ _ _ h => h) (Or.inl ⟨by kernel_rfl, fun w' hSw => (by go_simp)⟩) (by assumption) ?_
  try simp only [Act.put, List.getElem_toArray, List.getElem_cons_zero, List.getElem_cons_succ, List.setIfInBounds_toArray, List.set_cons_zero, List.set_cons_succ]
  refine wpAnyH_take (i := 6) (v := (.agg #[.bool n.1, .slice va n.2.1.length vc, .int .i64 n.2.2])) rfl (by kernel_rfl) (by kernel_rfl) (by kernel_rfl) (fun _ _ _ h => h) (yieldsIf_load_mid (by kernel_rfl) 43 _ rfl w.heap.size 0 rfl [.bool n.1, .slice va n.2.1.length vc, .int .i64 n.2.2] _ (fun W hW => rng3 hW.1) Tryz.underlying43 rfl (by kernel_rfl)) (by assumption) ?_
  try simp only [Act.put, List.getElem_toArray, List.getElem_cons_zero, List.getElem_cons_succ, List.setIfInBounds_toArray, List.set_cons_zero, List.set_cons_succ]
  refine wpAnyH_take (i := 7) (v := (.slice (some ⟨w.heap.size + 1, 0, none⟩) 24 24)) rfl (by kernel_rfl) (by kernel_rfl) (by kernel_rfl) (fun _ _ _ h => h) (Or.inl ⟨by kernel_rfl, fun w' hSw => (by go_simp)⟩) (by assumption) ?_
  try simp only [Act.put, List.getElem_toArray, List.getElem_cons_zero, List.getElem_cons_succ, List.setIfInBounds_toArray, List.set_cons_zero, List.set_cons_succ]
  refine wpAnyH_take (i := 8) (v := (.int .i64 17)) rfl (by kernel_rfl) (by kernel_rfl) (by kernel_rfl) (fun _ _ _ h => h) (Or.inl ⟨by kernel_rfl, fun w' hSw => (by go_simp)⟩) (by assumption) ?_
  try simp only [Act.put, List.getElem_toArray, List.getElem_cons_zero, List.getElem_cons_succ, List.setIfInBounds_toArray, List.set_cons_zero, List.set_cons_succ]
  refine wpAnyH_take (i := 9) (v := (.pointer (some ⟨w.heap.size + 1, 17, none⟩))) rfl (by kernel_rfl) (by kernel_rfl) (by kernel_rfl) (fun _ _ _ h => h) (Or.inl ⟨by kernel_rfl, fun w' hSw => (by go_simp)⟩) (by assumption) ?_
  try simp only [Act.put, List.getElem_toArray, List.getElem_cons_zero, List.getElem_cons_succ, List.setIfInBounds_toArray, List.set_cons_zero, List.set_cons_succ]
  refine wpAnyH_take (i := 10) (v := (.string ⟨#[45, 50, 49, 52, 55, 52, 56, 51, 54, 52, 56]⟩)) rfl (by kernel_rfl) (by kernel_rfl) (by kernel_rfl) (fun _ _ _ h => h) (Or.inl ⟨by kernel_rfl, fun w' hSw => (by have hc : w'.cell? ⟨w.heap.size + 1, 17, none⟩ = some (.string ⟨#[45, 50, 49, 52, 55, 52, 56, 51, 54, 52, 56]⟩) := row_cell hSw.2.1; go_simp)⟩) (by assumption) ?_
  try simp only [Act.put, List.getElem_toArray, List.getElem_cons_zero, List.getElem_cons_succ, List.setIfInBounds_toArray, List.set_cons_zero, List.set_cons_succ]
  refine wpAnyH_ready (rs := [11]) (by kernel_rfl) (by simp) ?_
  refine AllReadyH.cons rfl (fun K hK => ?_) AllReadyH.nil
  go_simp
  refine Calls.mono (bound_r (n := (true, [2, 1, 4, 7, 4, 8, 3, 6, 4, 8], 0)) ⟨#[45, 50, 49, 52, 55, 52, 56, 51, 54, 52, 56]⟩ _ (by decide) pb5) ?_
  rintro e w9 ⟨rv, rfl, hb9, hrv⟩
  have hbb := HB.out.trans (hb9.mono HB.out.size)
  have hS9 := HK.out _ hbb
  clear HB hHeld
  have HB : Hid _ := hbb
  have HRV : Hid _ := hrv
  clear hbb hb9 hrv
  go_wp2_with fail
  refine hK.out _ _ hS9 (fun hHeld => ?_)
  clear hK K hS9
  try simp only [Act.put, List.getElem_toArray, List.getElem_cons_zero, List.getElem_cons_succ, List.setIfInBounds_toArray, List.set_cons_zero, List.set_cons_succ]
  refine wpAnyH_ready (rs := [12]) (by kernel_rfl) (by simp) ?_
  refine AllReadyH.cons rfl (fun K hK => ?_) AllReadyH.nil
  go_simp
  have hcr := Dc.cmp_r (HN.out _ HB.out) HRV.out
  refine Calls.mono hcr ?_
  clear hcr
  rintro e w9 ⟨rfl, hb9⟩
  have hbb := HB.out.trans (hb9.mono HB.out.size)
  have hS9 := HK.out _ hbb
  clear HB hHeld
  have HB : Hid _ := hbb
  clear hbb hb9
  rw [HCl]
  go_wp2_with fail
  refine hK.out _ _ hS9 (fun hHeld => ?_)
  clear hK K hS9
  try simp only [Act.put, List.getElem_toArray, List.getElem_cons_zero, List.getElem_cons_succ, List.setIfInBounds_toArray, List.set_cons_zero, List.set_cons_succ]
  refine wpAnyH_take (i := 13) (v := (.bool false)) rfl (by kernel_rfl) (by kernel_rfl) (by kernel_rfl) (fun _ _ _ h => h) (Or.inl ⟨by kernel_rfl, fun w' hSw => (by go_simp)⟩) (by assumption) ?_
  try simp only [Act.put, List.getElem_toArray, List.getElem_cons_zero, List.getElem_cons_succ, List.setIfInBounds_toArray, List.set_cons_zero, List.set_cons_succ]
  refine wpAnyH_take (i := 14) (v := (.bool false)) rfl (by kernel_rfl) (by kernel_rfl) (by kernel_rfl) (fun _ _ _ h => h) (Or.inl ⟨by kernel_rfl, fun w' hSw => (by go_simp)⟩) (by assumption) ?_
  try simp only [Act.put, List.getElem_toArray, List.getElem_cons_zero, List.getElem_cons_succ, List.setIfInBounds_toArray, List.set_cons_zero, List.set_cons_succ]
  refine wpAnyH_done (by kernel_rfl) ?_ _
  clear hHeld HRV
  go_upto_region 5 with fail
  by_cases hd : d ≤ 0
  · have hdd : decide (d ≤ 0) = true := by simpa using hd
    have HE : Hid (wiB 17 (Dc.nv n 0) = true) := by
      show _ = _
      have h2 := HW.out.2
      rw [HCh] at h2
      have h1 := HW.out.1
      rw [HCl] at h1
      have h3 := HCN.out
      unfold wiB
      simp
      omega
    clear hd
    have HB1 : Hid _ := HB.out
    clear HB
    have HB : Hid (Below U.heap.size U w9.drew) := HB1.out.trans ((Dc.Below.drewN' 1).mono HB1.out.size)
    refine wp_region_held_drew (S := fun W => W.heap[w.heap.size]? = some (.cells #[.bool n.1, .slice va n.2.1.length vc, .int .i64 n.2.2] 43 (0, 0)) ∧ W.heap[w.heap.size + 1]? = some (.cells loT 9 (0, 0)) ∧ W.heap[w.heap.size + 1 + 1]? = some (.cells hiT 9 (0, 0))) (by kernel_rfl) (HK.out _ HB.out) (fun hHeld => ?_)
    refine wpAnyH_take (i := 0) (v := (.slice (some ⟨w.heap.size + 1 + 1, 0, none⟩) 24 24)) rfl (by kernel_rfl) (by kernel_rfl) (by kernel_rfl) (fun _ _ _ h => h) (Or.inl ⟨by kernel_rfl, fun w' hSw => (by go_simp)⟩) (by assumption) ?_
    try simp only [Act.put, List.getElem_toArray, List.getElem_cons_zero, List.getElem_cons_succ, List.setIfInBounds_toArray, List.set_cons_zero, List.set_cons_succ]
    refine wpAnyH_take (i := 1) (v := (.int .i64 17)) rfl (by kernel_rfl) (by kernel_rfl) (by kernel_rfl) (fun _ _ _ h => h) (Or.inl ⟨by kernel_rfl, fun w' hSw => (by go_simp)⟩) (by assumption) ?_
    try simp only [Act.put, List.getElem_toArray, List.getElem_cons_zero, List.getElem_cons_succ, List.setIfInBounds_toArray, List.set_cons_zero, List.set_cons_succ]
    refine wpAnyH_take (i := 2) (v := (.pointer (some ⟨w.heap.size + 1 + 1, 17, none⟩))) rfl (by kernel_rfl) (by kernel_rfl) (by kernel_rfl) (fun _ _ _ h => h) (Or.inl ⟨by kernel_rfl, fun w' hSw => (by go_simp)⟩) (by assumption) ?_
    try simp only [Act.put, List.getElem_toArray, List.getElem_cons_zero, List.getElem_cons_succ, List.setIfInBounds_toArray, List.set_cons_zero, List.set_cons_succ]
    refine wpAnyH_take (i := 3) (v := (.string ⟨#[50, 49, 52, 55, 52, 56, 51, 54, 52, 55]⟩)) rfl (by kernel_rfl) (by kernel_rfl) (by kernel_rfl) (fun _ _ _ h => h) (Or.inl ⟨by kernel_rfl, fun w' hSw => (by have hc : w'.cell? ⟨w.heap.size + 1 + 1, 17, none⟩ = some (.string ⟨#[50, 49, 52, 55, 52, 56, 51, 54, 52, 55]⟩) := row_cell hSw.2.2; go_simp)⟩) (by assumption) ?_
    try simp only [Act.put, List.getElem_toArray, List.getElem_cons_zero, List.getElem_cons_succ, List.setIfInBounds_toArray, List.set_cons_zero, List.set_cons_succ]
    refine wpAnyH_take (i := 4) (v := (.bool false)) rfl (by kernel_rfl) (by kernel_rfl) (by kernel_rfl) (fun _ _ _ h => h) (Or.inl ⟨by kernel_rfl, fun w' hSw => (by go_simp)⟩) (by assumption) ?_
    try simp only [Act.put, List.getElem_toArray, List.getElem_cons_zero, List.getElem_cons_succ, List.setIfInBounds_toArray, List.set_cons_zero, List.set_cons_succ]
    refine wpAnyH_take (i := 5) (v := (.bool false)) rfl (by kernel_rfl) (by kernel_rfl) (by kernel_rfl) (fun _ _ _ h => h) (Or.inl ⟨by kernel_rfl, fun w' hSw => (by go_simp)⟩) (by assumption) ?_
    try simp only [Act.put, List.getElem_toArray, List.getElem_cons_zero, List.getElem_cons_succ, List.setIfInBounds_toArray, List.set_cons_zero, List.set_cons_succ]
    refine wpAnyH_take (i := 6) (v := (.agg #[.bool n.1, .slice va n.2.1.length vc, .int .i64 n.2.2])) rfl (by kernel_rfl) (by kernel_rfl) (by kernel_rfl) (fun _ _ _ h => h) (yieldsIf_load_mid (by kernel_rfl) 43 _ rfl w.heap.size 0 rfl [.bool n.1, .slice va n.2.1.length vc, .int .i64 n.2.2] _ (fun W hW => rng3 hW.1) Tryz.underlying43 rfl (by kernel_rfl)) (by assumption) ?_
    try simp only [Act.put, List.getElem_toArray, List.getElem_cons_zero, List.getElem_cons_succ, List.setIfInBounds_toArray, List.set_cons_zero, List.set_cons_succ]
    refine wpAnyH_take (i := 7) (v := (.slice (some ⟨w.heap.size + 1 + 1, 0, none⟩) 24 24)) rfl (by kernel_rfl) (by kernel_rfl) (by kernel_rfl) (fun _ _ _ h => h) (Or.inl ⟨by kernel_rfl, fun w' hSw => (by go_simp)⟩) (by assumption) ?_
    try simp only [Act.put, List.getElem_toArray, List.getElem_cons_zero, List.getElem_cons_succ, List.setIfInBounds_toArray, List.set_cons_zero, List.set_cons_succ]
    refine wpAnyH_take (i := 8) (v := (.int .i64 17)) rfl (by kernel_rfl) (by kernel_rfl) (by kernel_rfl) (fun _ _ _ h => h) (Or.inl ⟨by kernel_rfl, fun w' hSw => (by go_simp)⟩) (by assumption) ?_
    try simp only [Act.put, List.getElem_toArray, List.getElem_cons_zero, List.getElem_cons_succ, List.setIfInBounds_toArray, List.set_cons_zero, List.set_cons_succ]
    refine wpAnyH_take (i := 9) (v := (.pointer (some ⟨w.heap.size + 1 + 1, 17, none⟩))) rfl (by kernel_rfl) (by kernel_rfl) (by kernel_rfl) (fun _ _ _ h => h) (Or.inl ⟨by kernel_rfl, fun w' hSw => (by go_simp)⟩) (by assumption) ?_
    try simp only [Act.put, List.getElem_toArray, List.getElem_cons_zero, List.getElem_cons_succ, List.setIfInBounds_toArray, List.set_cons_zero, List.set_cons_succ]
    refine wpAnyH_take (i := 10) (v := (.string ⟨#[50, 49, 52, 55, 52, 56, 51, 54, 52, 55]⟩)) rfl (by kernel_rfl) (by kernel_rfl) (by kernel_rfl) (fun _ _ _ h => h) (Or.inl ⟨by kernel_rfl, fun w' hSw => (by have hc : w'.cell? ⟨w.heap.size + 1 + 1, 17, none⟩ = some (.string ⟨#[50, 49, 52, 55, 52, 56, 51, 54, 52, 55]⟩) := row_cell hSw.2.2; go_simp)⟩) (by assumption) ?_
    try simp only [Act.put, List.getElem_toArray, List.getElem_cons_zero, List.getElem_cons_succ, List.setIfInBounds_toArray, List.set_cons_zero, List.set_cons_succ]
    refine wpAnyH_ready (rs := [11]) (by kernel_rfl) (by simp) ?_
    refine AllReadyH.cons rfl (fun K hK => ?_) AllReadyH.nil
    go_simp
    refine Calls.mono (bound_r (n := (false, [2, 1, 4, 7, 4, 8, 3, 6, 4, 7], 0)) ⟨#[50, 49, 52, 55, 52, 56, 51, 54, 52, 55]⟩ _ (by decide) pb6) ?_
    rintro e w9 ⟨rv, rfl, hb9, hrv⟩
    have hbb := HB.out.trans (hb9.mono HB.out.size)
    have hS9 := HK.out _ hbb
    clear HB hHeld
    have HB : Hid _ := hbb
    have HRV : Hid _ := hrv
    clear hbb hb9 hrv
    go_wp2_with fail
    refine hK.out _ _ hS9 (fun hHeld => ?_)
    clear hK K hS9
    try simp only [Act.put, List.getElem_toArray, List.getElem_cons_zero, List.getElem_cons_succ, List.setIfInBounds_toArray, List.set_cons_zero, List.set_cons_succ]
    refine wpAnyH_ready (rs := [12]) (by kernel_rfl) (by simp) ?_
    refine AllReadyH.cons rfl (fun K hK => ?_) AllReadyH.nil
    go_simp
    have hcr := Dc.cmp_r (HN.out _ HB.out) HRV.out
    refine Calls.mono hcr ?_
    clear hcr
    rintro e w9 ⟨rfl, hb9⟩
    have hbb := HB.out.trans (hb9.mono HB.out.size)
    have hS9 := HK.out _ hbb
    clear HB hHeld
    have HB : Hid _ := hbb
    clear hbb hb9
    rw [HCh]
    go_wp2_with fail
    refine hK.out _ _ hS9 (fun hHeld => ?_)
    clear hK K hS9
    try simp only [Act.put, List.getElem_toArray, List.getElem_cons_zero, List.getElem_cons_succ, List.setIfInBounds_toArray, List.set_cons_zero, List.set_cons_succ]
    refine wpAnyH_take (i := 13) (v := (.bool true)) rfl (by kernel_rfl) (by kernel_rfl) (by kernel_rfl) (fun _ _ _ h => h) (Or.inl ⟨by kernel_rfl, fun w' hSw => (by go_simp)⟩) (by assumption) ?_
    try simp only [Act.put, List.getElem_toArray, List.getElem_cons_zero, List.getElem_cons_succ, List.setIfInBounds_toArray, List.set_cons_zero, List.set_cons_succ]
    refine wpAnyH_take (i := 14) (v := (.bool true)) rfl (by kernel_rfl) (by kernel_rfl) (by kernel_rfl) (fun _ _ _ h => h) (Or.inl ⟨by kernel_rfl, fun w' hSw => (by go_simp)⟩) (by assumption) ?_
    try simp only [Act.put, List.getElem_toArray, List.getElem_cons_zero, List.getElem_cons_succ, List.setIfInBounds_toArray, List.set_cons_zero, List.set_cons_succ]
    refine wpAnyH_take (i := 15) (v := (.bool true)) rfl (by kernel_rfl) (by kernel_rfl) (by kernel_rfl) (fun _ _ _ h => h) (Or.inl ⟨by kernel_rfl, fun w' hSw => (by go_simp)⟩) (by assumption) ?_
    try simp only [Act.put, List.getElem_toArray, List.getElem_cons_zero, List.getElem_cons_succ, List.setIfInBounds_toArray, List.set_cons_zero, List.set_cons_succ]
    refine wpAnyH_done (by kernel_rfl) ?_ _
    go_wp2_with fail
    go_ret
    exact ⟨ret_b HE.out.symm, HU.out.trans (HB.out.mono HU.out.size)⟩
  · have hdd : decide (d ≤ 0) = false := by simpa using hd
    have HE : Hid (wiB 17 (Dc.nv n 0) = false) := by
      show _ = _
      have h2 := HW.out.2
      rw [HCh] at h2
      have h1 := HW.out.1
      rw [HCl] at h1
      have h3 := HCN.out
      unfold wiB
      simp
      omega
    clear hd
    have HB1 : Hid _ := HB.out
    clear HB
    have HB : Hid (Below U.heap.size U w9.drew) := HB1.out.trans ((Dc.Below.drewN' 1).mono HB1.out.size)
    refine wp_region_held_drew (S := fun W => W.heap[w.heap.size]? = some (.cells #[.bool n.1, .slice va n.2.1.length vc, .int .i64 n.2.2] 43 (0, 0)) ∧ W.heap[w.heap.size + 1]? = some (.cells loT 9 (0, 0)) ∧ W.heap[w.heap.size + 1 + 1]? = some (.cells hiT 9 (0, 0))) (by kernel_rfl) (HK.out _ HB.out) (fun hHeld => ?_)
    refine wpAnyH_take (i := 0) (v := (.slice (some ⟨w.heap.size + 1 + 1, 0, none⟩) 24 24)) rfl (by kernel_rfl) (by kernel_rfl) (by kernel_rfl) (fun _ _ _ h => h) (Or.inl ⟨by kernel_rfl, fun w' hSw => (by go_simp)⟩) (by assumption) ?_
    try simp only [Act.put, List.getElem_toArray, List.getElem_cons_zero, List.getElem_cons_succ, List.setIfInBounds_toArray, List.set_cons_zero, List.set_cons_succ]
    refine wpAnyH_take (i := 1) (v := (.int .i64 17)) rfl (by kernel_rfl) (by kernel_rfl) (by kernel_rfl) (fun _ _ _ h => h) (Or.inl ⟨by kernel_rfl, fun w' hSw => (by go_simp)⟩) (by assumption) ?_
    try simp only [Act.put, List.getElem_toArray, List.getElem_cons_zero, List.getElem_cons_succ, List.setIfInBounds_toArray, List.set_cons_zero, List.set_cons_succ]
    refine wpAnyH_take (i := 2) (v := (.pointer (some ⟨w.heap.size + 1 + 1, 17, none⟩))) rfl (by kernel_rfl) (by kernel_rfl) (by kernel_rfl) (fun _ _ _ h => h) (Or.inl ⟨by kernel_rfl, fun w' hSw => (by go_simp)⟩) (by assumption) ?_
    try simp only [Act.put, List.getElem_toArray, List.getElem_cons_zero, List.getElem_cons_succ, List.setIfInBounds_toArray, List.set_cons_zero, List.set_cons_succ]
    refine wpAnyH_take (i := 3) (v := (.string ⟨#[50, 49, 52, 55, 52, 56, 51, 54, 52, 55]⟩)) rfl (by kernel_rfl) (by kernel_rfl) (by kernel_rfl) (fun _ _ _ h => h) (Or.inl ⟨by kernel_rfl, fun w' hSw => (by have hc : w'.cell? ⟨w.heap.size + 1 + 1, 17, none⟩ = some (.string ⟨#[50, 49, 52, 55, 52, 56, 51, 54, 52, 55]⟩) := row_cell hSw.2.2; go_simp)⟩) (by assumption) ?_
    try simp only [Act.put, List.getElem_toArray, List.getElem_cons_zero, List.getElem_cons_succ, List.setIfInBounds_toArray, List.set_cons_zero, List.set_cons_succ]
    refine wpAnyH_take (i := 4) (v := (.bool false)) rfl (by kernel_rfl) (by kernel_rfl) (by kernel_rfl) (fun _ _ _ h => h) (Or.inl ⟨by kernel_rfl, fun w' hSw => (by go_simp)⟩) (by assumption) ?_
    try simp only [Act.put, List.getElem_toArray, List.getElem_cons_zero, List.getElem_cons_succ, List.setIfInBounds_toArray, List.set_cons_zero, List.set_cons_succ]
    refine wpAnyH_take (i := 5) (v := (.bool false)) rfl (by kernel_rfl) (by kernel_rfl) (by kernel_rfl) (fun _ _ _ h => h) (Or.inl ⟨by kernel_rfl, fun w' hSw => (by go_simp)⟩) (by assumption) ?_
    try simp only [Act.put, List.getElem_toArray, List.getElem_cons_zero, List.getElem_cons_succ, List.setIfInBounds_toArray, List.set_cons_zero, List.set_cons_succ]
    refine wpAnyH_take (i := 6) (v := (.agg #[.bool n.1, .slice va n.2.1.length vc, .int .i64 n.2.2])) rfl (by kernel_rfl) (by kernel_rfl) (by kernel_rfl) (fun _ _ _ h => h) (yieldsIf_load_mid (by kernel_rfl) 43 _ rfl w.heap.size 0 rfl [.bool n.1, .slice va n.2.1.length vc, .int .i64 n.2.2] _ (fun W hW => rng3 hW.1) Tryz.underlying43 rfl (by kernel_rfl)) (by assumption) ?_
    try simp only [Act.put, List.getElem_toArray, List.getElem_cons_zero, List.getElem_cons_succ, List.setIfInBounds_toArray, List.set_cons_zero, List.set_cons_succ]
    refine wpAnyH_take (i := 7) (v := (.slice (some ⟨w.heap.size + 1 + 1, 0, none⟩) 24 24)) rfl (by kernel_rfl) (by kernel_rfl) (by kernel_rfl) (fun _ _ _ h => h) (Or.inl ⟨by kernel_rfl, fun w' hSw => (by go_simp)⟩) (by assumption) ?_
    try simp only [Act.put, List.getElem_toArray, List.getElem_cons_zero, List.getElem_cons_succ, List.setIfInBounds_toArray, List.set_cons_zero, List.set_cons_succ]
    refine wpAnyH_take (i := 8) (v := (.int .i64 17)) rfl (by kernel_rfl) (by kernel_rfl) (by kernel_rfl) (fun _ _ _ h => h) (Or.inl ⟨by kernel_rfl, fun w' hSw => (by go_simp)⟩) (by assumption) ?_
    try simp only [Act.put, List.getElem_toArray, List.getElem_cons_zero, List.getElem_cons_succ, List.setIfInBounds_toArray, List.set_cons_zero, List.set_cons_succ]
    refine wpAnyH_take (i := 9) (v := (.pointer (some ⟨w.heap.size + 1 + 1, 17, none⟩))) rfl (by kernel_rfl) (by kernel_rfl) (by kernel_rfl) (fun _ _ _ h => h) (Or.inl ⟨by kernel_rfl, fun w' hSw => (by go_simp)⟩) (by assumption) ?_
    try simp only [Act.put, List.getElem_toArray, List.getElem_cons_zero, List.getElem_cons_succ, List.setIfInBounds_toArray, List.set_cons_zero, List.set_cons_succ]
    refine wpAnyH_take (i := 10) (v := (.string ⟨#[50, 49, 52, 55, 52, 56, 51, 54, 52, 55]⟩)) rfl (by kernel_rfl) (by kernel_rfl) (by kernel_rfl) (fun _ _ _ h => h) (Or.inl ⟨by kernel_rfl, fun w' hSw => (by have hc : w'.cell? ⟨w.heap.size + 1 + 1, 17, none⟩ = some (.string ⟨#[50, 49, 52, 55, 52, 56, 51, 54, 52, 55]⟩) := row_cell hSw.2.2; go_simp)⟩) (by assumption) ?_
    try simp only [Act.put, List.getElem_toArray, List.getElem_cons_zero, List.getElem_cons_succ, List.setIfInBounds_toArray, List.set_cons_zero, List.set_cons_succ]
    refine wpAnyH_ready (rs := [11]) (by kernel_rfl) (by simp) ?_
    refine AllReadyH.cons rfl (fun K hK => ?_) AllReadyH.nil
    go_simp
    refine Calls.mono (bound_r (n := (false, [2, 1, 4, 7, 4, 8, 3, 6, 4, 7], 0)) ⟨#[50, 49, 52, 55, 52, 56, 51, 54, 52, 55]⟩ _ (by decide) pb6) ?_
    rintro e w9 ⟨rv, rfl, hb9, hrv⟩
    have hbb := HB.out.trans (hb9.mono HB.out.size)
    have hS9 := HK.out _ hbb
    clear HB hHeld
    have HB : Hid _ := hbb
    have HRV : Hid _ := hrv
    clear hbb hb9 hrv
    go_wp2_with fail
    refine hK.out _ _ hS9 (fun hHeld => ?_)
    clear hK K hS9
    try simp only [Act.put, List.getElem_toArray, List.getElem_cons_zero, List.getElem_cons_succ, List.setIfInBounds_toArray, List.set_cons_zero, List.set_cons_succ]
    refine wpAnyH_ready (rs := [12]) (by kernel_rfl) (by simp) ?_
    refine AllReadyH.cons rfl (fun K hK => ?_) AllReadyH.nil
    go_simp
    have hcr := Dc.cmp_r (HN.out _ HB.out) HRV.out
    refine Calls.mono hcr ?_
    clear hcr
    rintro e w9 ⟨rfl, hb9⟩
    have hbb := HB.out.trans (hb9.mono HB.out.size)
    have hS9 := HK.out _ hbb
    clear HB hHeld
    have HB : Hid _ := hbb
    clear hbb hb9
    rw [HCh]
    go_wp2_with fail
    refine hK.out _ _ hS9 (fun hHeld => ?_)
    clear hK K hS9
    try simp only [Act.put, List.getElem_toArray, List.getElem_cons_zero, List.getElem_cons_succ, List.setIfInBounds_toArray, List.set_cons_zero, List.set_cons_succ]
    refine wpAnyH_take (i := 13) (v := (.bool false)) rfl (by kernel_rfl) (by kernel_rfl) (by kernel_rfl) (fun _ _ _ h => h) (Or.inl ⟨by kernel_rfl, fun w' hSw => (by go_simp)⟩) (by assumption) ?_
    try simp only [Act.put, List.getElem_toArray, List.getElem_cons_zero, List.getElem_cons_succ, List.setIfInBounds_toArray, List.set_cons_zero, List.set_cons_succ]
    refine wpAnyH_take (i := 14) (v := (.bool false)) rfl (by kernel_rfl) (by kernel_rfl) (by kernel_rfl) (fun _ _ _ h => h) (Or.inl ⟨by kernel_rfl, fun w' hSw => (by go_simp)⟩) (by assumption) ?_
    try simp only [Act.put, List.getElem_toArray, List.getElem_cons_zero, List.getElem_cons_succ, List.setIfInBounds_toArray, List.set_cons_zero, List.set_cons_succ]
    refine wpAnyH_take (i := 15) (v := (.bool false)) rfl (by kernel_rfl) (by kernel_rfl) (by kernel_rfl) (fun _ _ _ h => h) (Or.inl ⟨by kernel_rfl, fun w' hSw => (by go_simp)⟩) (by assumption) ?_
    try simp only [Act.put, List.getElem_toArray, List.getElem_cons_zero, List.getElem_cons_succ, List.setIfInBounds_toArray, List.set_cons_zero, List.set_cons_succ]
    refine wpAnyH_done (by kernel_rfl) ?_ _
    go_wp2_with fail
    go_ret
    exact ⟨ret_b HE.out.symm, HU.out.trans (HB.out.mono HU.out.size)⟩
set_option maxRecDepth 100000 in
set_option maxHeartbeats 6400000 in
theorem within_18 {w : World} {v : Value} {n : Dc.Nm} (hn : Dc.NmR w v n) (h0 : n.2.2 = 0) : Calls Tryz.prog 43 #[.int .i64 18, Dc.nmV n.1 v n.2.2] w fun e w' => e = .returned (.bool (wiB 18 (Dc.nv n 0))) ∧ Below w.heap.size w w' := by
  have hl := (cmp_whole hn.cn h0 pb7c rfl).1
  rw [pb7v] at hl
  have hh := (cmp_whole hn.cn h0 pb8c rfl).2
  rw [pb8v] at hh
  have HW : Hid ((Dc.cmpS n (true, [3, 2, 7, 6, 8], 0) < 0 ↔ Dc.nv n 0 < -32768) ∧ (Dc.cmpS n (false, [3, 2, 7, 6, 7], 0) ≤ 0 ↔ Dc.nv n 0 ≤ 32767)) := ⟨hl, hh⟩
  clear hl hh
  obtain ⟨va, vc, rfl, _⟩ := hn.bt.form
  have hx := M.nw_heap w (.cells #[.bool n.1, .slice va n.2.1.length vc, .int .i64 n.2.2] 43)
  have hb1 : Below w.heap.size w (((w.alloc (.cells #[.bool n.1, .slice va n.2.1.length vc, .int .i64 n.2.2] 43)).alloc (.cells loT 9)).alloc (.cells hiT 9)) := bel3 w _ _ _
  have hS := blocks3 w (.cells #[.bool n.1, .slice va n.2.1.length vc, .int .i64 n.2.2] 43) (.cells loT 9) (.cells hiT 9)
  obtain ⟨U, hU⟩ : ∃ U, ((w.alloc (.cells #[.bool n.1, .slice va n.2.1.length vc, .int .i64 n.2.2] 43)).alloc (.cells loT 9)).alloc (.cells hiT 9) = U := ⟨_, rfl⟩
  rw [hU] at hb1 hS
  have HN : Hid _ := fun W (hW : Below U.heap.size U W) => hn.below (hb1.trans (hW.mono hb1.size))
  have HK : Hid (∀ W, Below U.heap.size U W → _ ∧ _ ∧ _) := fun W hW => And.intro ((hW.block _ (Dc.lt_of hS.1)).trans hS.1) (And.intro ((hW.block _ (Dc.lt_of hS.2.1)).trans hS.2.1) ((hW.block _ (Dc.lt_of hS.2.2)).trans hS.2.2))
  have HU : Hid _ := hb1
  clear hx hb1 hS hn h0
  obtain ⟨c, HCl⟩ : ∃ c, Dc.cmpS n (true, [3, 2, 7, 6, 8], 0) = c := ⟨_, rfl⟩
  obtain ⟨d, HCh⟩ : ∃ d, Dc.cmpS n (false, [3, 2, 7, 6, 7], 0) = d := ⟨_, rfl⟩
  go_enter Tryz.func43, Tryz.ntmps43
  go_upto_region 3 with fail
  try rw [show ((w.alloc (.cells #[.bool n.1, .slice va n.2.1.length vc, .int .i64 n.2.2] 43)).alloc (.cells #[.string ⟨#[]⟩, .string ⟨#[]⟩, .string ⟨#[]⟩, .string ⟨#[]⟩, .string ⟨#[]⟩, .string ⟨#[]⟩, .string ⟨#[]⟩, .string ⟨#[]⟩, .string ⟨#[]⟩, .string ⟨#[]⟩, .string ⟨#[]⟩, .string ⟨#[]⟩, .string ⟨#[]⟩, .string ⟨#[]⟩, .string ⟨#[48]⟩, .string ⟨#[49]⟩, .string ⟨#[45, 57, 50, 50, 51, 51, 55, 50, 48, 51, 54, 56, 53, 52, 55, 55, 53, 56, 48, 56]⟩, .string ⟨#[45, 50, 49, 52, 55, 52, 56, 51, 54, 52, 56]⟩, .string ⟨#[45, 51, 50, 55, 54, 56]⟩, .string ⟨#[45, 49, 50, 56]⟩, .string ⟨#[48]⟩, .string ⟨#[48]⟩, .string ⟨#[48]⟩, .string ⟨#[48]⟩] 9)).alloc (.cells #[.string ⟨#[]⟩, .string ⟨#[]⟩, .string ⟨#[]⟩, .string ⟨#[]⟩, .string ⟨#[]⟩, .string ⟨#[]⟩, .string ⟨#[]⟩, .string ⟨#[]⟩, .string ⟨#[]⟩, .string ⟨#[]⟩, .string ⟨#[]⟩, .string ⟨#[]⟩, .string ⟨#[48]⟩, .string ⟨#[45, 49]⟩, .string ⟨#[]⟩, .string ⟨#[]⟩, .string ⟨#[57, 50, 50, 51, 51, 55, 50, 48, 51, 54, 56, 53, 52, 55, 55, 53, 56, 48, 55]⟩, .string ⟨#[50, 49, 52, 55, 52, 56, 51, 54, 52, 55]⟩, .string ⟨#[51, 50, 55, 54, 55]⟩, .string ⟨#[49, 50, 55]⟩, .string ⟨#[49, 56, 52, 52, 54, 55, 52, 52, 48, 55, 51, 55, 48, 57, 53, 53, 49, 54, 49, 53]⟩, .string ⟨#[52, 50, 57, 52, 57, 54, 55, 50, 57, 53]⟩, .string ⟨#[54, 53, 53, 51, 53]⟩, .string ⟨#[50, 53, 53]⟩] 9) = U from hU]
  clear hU
  have HB : Hid (Below U.heap.size U U.drew) := Dc.Below.drewN' 1
  by_cases hc : c < 0
  · have hcd : decide (c < 0) = true := by simpa using hc
    have HE : Hid (wiB 18 (Dc.nv n 0) = false) := by
      show _ = _
      have := HW.out.1
      rw [HCl] at this
      unfold wiB
      simp
      omega
    clear hc
    refine wp_region_held_drew (S := fun W => W.heap[w.heap.size]? = some (.cells #[.bool n.1, .slice va n.2.1.length vc, .int .i64 n.2.2] 43 (0, 0)) ∧ W.heap[w.heap.size + 1]? = some (.cells loT 9 (0, 0)) ∧ W.heap[w.heap.size + 1 + 1]? = some (.cells hiT 9 (0, 0))) (by kernel_rfl) (HK.out _ HB.out) (fun hHeld => ?_)
    refine wpAnyH_take (i := 0) (v := (.slice (some ⟨w.heap.size + 1, 0, none⟩) 24 24)) rfl (by kernel_rfl) (by kernel_rfl) (by kernel_rfl) (fun _ _ _ h => h) (Or.inl ⟨by kernel_rfl, fun w' hSw => (by go_simp)⟩) (by assumption) ?_
    try simp only [Act.put, List.getElem_toArray, List.getElem_cons_zero, List.getElem_cons_succ, List.setIfInBounds_toArray, List.set_cons_zero, List.set_cons_succ]
    refine wpAnyH_take (i := 1) (v := (.int .i64 18)) rfl (by kernel_rfl) (by kernel_rfl) (by kernel_rfl) (fun _ _ _ h => h) (Or.inl ⟨by kernel_rfl, fun w' hSw => (by go_simp)⟩) (by assumption) ?_
    try simp only [Act.put, List.getElem_toArray, List.getElem_cons_zero, List.getElem_cons_succ, List.setIfInBounds_toArray, List.set_cons_zero, List.set_cons_succ]
    refine wpAnyH_take (i := 2) (v := (.pointer (some ⟨w.heap.size + 1, 18, none⟩))) rfl (by kernel_rfl) (by kernel_rfl) (by kernel_rfl) (fun _ _ _ h => h) (Or.inl ⟨by kernel_rfl, fun w' hSw => (by go_simp)⟩) (by assumption) ?_
    try simp only [Act.put, List.getElem_toArray, List.getElem_cons_zero, List.getElem_cons_succ, List.setIfInBounds_toArray, List.set_cons_zero, List.set_cons_succ]
    refine wpAnyH_take (i := 3) (v := (.string ⟨#[45, 51, 50, 55, 54, 56]⟩)) rfl (by kernel_rfl) (by kernel_rfl) (by kernel_rfl) (fun _ _ _ h => h) (Or.inl ⟨by kernel_rfl, fun w' hSw => (by have hc : w'.cell? ⟨w.heap.size + 1, 18, none⟩ = some (.string ⟨#[45, 51, 50, 55, 54, 56]⟩) := row_cell hSw.2.1; go_simp)⟩) (by assumption) ?_
    try simp only [Act.put, List.getElem_toArray, List.getElem_cons_zero, List.getElem_cons_succ, List.setIfInBounds_toArray, List.set_cons_zero, List.set_cons_succ]
    refine wpAnyH_take (i := 4) (v := (.bool true)) rfl (by kernel_rfl) (by kernel_rfl) (by kernel_rfl) (fun _ _ _ h => h) (Or.inl ⟨by kernel_rfl, fun w' hSw => (by go_simp)⟩) (by assumption) ?_
    try simp only [Act.put, List.getElem_toArray, List.getElem_cons_zero, List.getElem_cons_succ, List.setIfInBounds_toArray, List.set_cons_zero, List.set_cons_succ]
    refine wpAnyH_take (i := 5) (v := (.bool true)) rfl (by kernel_rfl) (by kernel_rfl) (by kernel_rfl) (fun _ _ _ h => h) (Or.inl ⟨by kernel_rfl, fun w' hSw => (by go_simp)⟩) (by assumption) ?_
    try simp only [Act.put, List.getElem_toArray, List.getElem_cons_zero, List.getElem_cons_succ, List.setIfInBounds_toArray, List.set_cons_zero, List.set_cons_succ]
    refine wpAnyH_take (i := 6) (v := (.agg #[.bool n.1, .slice va n.2.1.length vc, .int .i64 n.2.2])) rfl (by kernel_rfl) (by kernel_rfl) (by kernel_rfl) (fun _ _ _ h => h) (yieldsIf_load_mid (by kernel_rfl) 43 _ rfl w.heap.size 0 rfl [.bool n.1, .slice va n.2.1.length vc, .int .i64 n.2.2] _ (fun W hW => rng3 hW.1) Tryz.underlying43 rfl (by kernel_rfl)) (by assumption) ?_
    try simp only [Act.put, List.getElem_toArray, List.getElem_cons_zero, List.getElem_cons_succ, List.setIfInBounds_toArray, List.set_cons_zero, List.set_cons_succ]
    refine wpAnyH_take (i := 7) (v := (.slice (some ⟨w.heap.size + 1, 0, none⟩) 24 24)) rfl (by kernel_rfl) (by kernel_rfl) (by kernel_rfl) (fun _ _ _ h => h) (Or.inl ⟨by kernel_rfl, fun w' hSw => (by go_simp)⟩) (by assumption) ?_
    try simp only [Act.put, List.getElem_toArray, List.getElem_cons_zero, List.getElem_cons_succ, List.setIfInBounds_toArray, List.set_cons_zero, List.set_cons_succ]
    refine wpAnyH_take (i := 8) (v := (.int .i64 18)) rfl (by kernel_rfl) (by kernel_rfl) (by kernel_rfl) (fun _ _ _ h => h) (Or.inl ⟨by kernel_rfl, fun w' hSw => (by go_simp)⟩) (by assumption) ?_
    try simp only [Act.put, List.getElem_toArray, List.getElem_cons_zero, List.getElem_cons_succ, List.setIfInBounds_toArray, List.set_cons_zero, List.set_cons_succ]
    refine wpAnyH_take (i := 9) (v := (.pointer (some ⟨w.heap.size + 1, 18, none⟩))) rfl (by kernel_rfl) (by kernel_rfl) (by kernel_rfl) (fun _ _ _ h => h) (Or.inl ⟨by kernel_rfl, fun w' hSw => (by go_simp)⟩) (by assumption) ?_
    try simp only [Act.put, List.getElem_toArray, List.getElem_cons_zero, List.getElem_cons_succ, List.setIfInBounds_toArray, List.set_cons_zero, List.set_cons_succ]
    refine wpAnyH_take (i := 10) (v := (.string ⟨#[45, 51, 50, 55, 54, 56]⟩)) rfl (by kernel_rfl) (by kernel_rfl) (by kernel_rfl) (fun _ _ _ h => h) (Or.inl ⟨by kernel_rfl, fun w' hSw => (by have hc : w'.cell? ⟨w.heap.size + 1, 18, none⟩ = some (.string ⟨#[45, 51, 50, 55, 54, 56]⟩) := row_cell hSw.2.1; go_simp)⟩) (by assumption) ?_
    try simp only [Act.put, List.getElem_toArray, List.getElem_cons_zero, List.getElem_cons_succ, List.setIfInBounds_toArray, List.set_cons_zero, List.set_cons_succ]
    refine wpAnyH_ready (rs := [11]) (by kernel_rfl) (by simp) ?_
    refine AllReadyH.cons rfl (fun K hK => ?_) AllReadyH.nil
    go_simp
    refine Calls.mono (bound_r (n := (true, [3, 2, 7, 6, 8], 0)) ⟨#[45, 51, 50, 55, 54, 56]⟩ _ (by decide) pb7) ?_
    rintro e w9 ⟨rv, rfl, hb9, hrv⟩
    have hbb := HB.out.trans (hb9.mono HB.out.size)
    have hS9 := HK.out _ hbb
    clear HB hHeld
    have HB : Hid _ := hbb
    have HRV : Hid _ := hrv
    clear hbb hb9 hrv
    go_wp2_with fail
    refine hK.out _ _ hS9 (fun hHeld => ?_)
    clear hK K hS9
    try simp only [Act.put, List.getElem_toArray, List.getElem_cons_zero, List.getElem_cons_succ, List.setIfInBounds_toArray, List.set_cons_zero, List.set_cons_succ]
    refine wpAnyH_ready (rs := [12]) (by kernel_rfl) (by simp) ?_
    refine AllReadyH.cons rfl (fun K hK => ?_) AllReadyH.nil
    go_simp
    have hcr := Dc.cmp_r (HN.out _ HB.out) HRV.out
    refine Calls.mono hcr ?_
    clear hcr
    rintro e w9 ⟨rfl, hb9⟩
    have hbb := HB.out.trans (hb9.mono HB.out.size)
    have hS9 := HK.out _ hbb
    clear HB hHeld
    have HB : Hid _ := hbb
    clear hbb hb9
    rw [HCl]
    go_wp2_with fail
    refine hK.out _ _ hS9 (fun hHeld => ?_)
    clear hK K hS9
    try simp only [Act.put, List.getElem_toArray, List.getElem_cons_zero, List.getElem_cons_succ, List.setIfInBounds_toArray, List.set_cons_zero, List.set_cons_succ]
    refine wpAnyH_take (i := 13) (v := (.bool true)) rfl (by kernel_rfl) (by kernel_rfl) (by kernel_rfl) (fun _ _ _ h => h) (Or.inl ⟨by kernel_rfl, fun w' hSw => (by go_simp)⟩) (by assumption) ?_
    try simp only [Act.put, List.getElem_toArray, List.getElem_cons_zero, List.getElem_cons_succ, List.setIfInBounds_toArray, List.set_cons_zero, List.set_cons_succ]
    refine wpAnyH_take (i := 14) (v := (.bool true)) rfl (by kernel_rfl) (by kernel_rfl) (by kernel_rfl) (fun _ _ _ h => h) (Or.inl ⟨by kernel_rfl, fun w' hSw => (by go_simp)⟩) (by assumption) ?_
    try simp only [Act.put, List.getElem_toArray, List.getElem_cons_zero, List.getElem_cons_succ, List.setIfInBounds_toArray, List.set_cons_zero, List.set_cons_succ]
    refine wpAnyH_done (by kernel_rfl) ?_ _
    clear hHeld
    go_wp2_with fail
    go_ret
    exact ⟨ret_b HE.out.symm, HU.out.trans (HB.out.mono HU.out.size)⟩
  have hcd : decide (c < 0) = false := by simpa using hc
  have HCN : Hid (¬ c < 0) := hc
  clear hc
  refine wp_region_held_drew (S := fun W => W.heap[w.heap.size]? = some (.cells #[.bool n.1, .slice va n.2.1.length vc, .int .i64 n.2.2] 43 (0, 0)) ∧ W.heap[w.heap.size + 1]? = some (.cells loT 9 (0, 0)) ∧ W.heap[w.heap.size + 1 + 1]? = some (.cells hiT 9 (0, 0))) (by kernel_rfl) (HK.out _ HB.out) (fun hHeld => ?_)
  refine wpAnyH_take (i := 0) (v := (.slice (some ⟨w.heap.size + 1, 0, none⟩) 24 24)) rfl (by kernel_rfl) (by kernel_rfl) (by kernel_rfl) (fun _ _ _ h => h) (Or.inl ⟨by kernel_rfl, fun w' hSw => (by go_simp)⟩) (by assumption) ?_
  try simp only [Act.put, List.getElem_toArray, List.getElem_cons_zero, List.getElem_cons_succ, List.setIfInBounds_toArray, List.set_cons_zero, List.set_cons_succ]
  refine wpAnyH_take (i := 1) (v := (.int .i64 18)) rfl (by kernel_rfl) (by kernel_rfl) (by kernel_rfl) (fun _ _ _ h => h) (Or.inl ⟨by kernel_rfl, fun w' hSw => (by go_simp)⟩) (by assumption) ?_
  try simp only [Act.put, List.getElem_toArray, List.getElem_cons_zero, List.getElem_cons_succ, List.setIfInBounds_toArray, List.set_cons_zero, List.set_cons_succ]
  refine wpAnyH_take (i := 2) (v := (.pointer (some ⟨w.heap.size + 1, 18, none⟩))) rfl (by kernel_rfl) (by kernel_rfl) (by kernel_rfl) (fun _ _ _ h => h) (Or.inl ⟨by kernel_rfl, fun w' hSw => (by go_simp)⟩) (by assumption) ?_
  try simp only [Act.put, List.getElem_toArray, List.getElem_cons_zero, List.getElem_cons_succ, List.setIfInBounds_toArray, List.set_cons_zero, List.set_cons_succ]
  refine wpAnyH_take (i := 3) (v := (.string ⟨#[45, 51, 50, 55, 54, 56]⟩)) rfl (by kernel_rfl) (by kernel_rfl) (by kernel_rfl) (fun _ _ _ h => h) (Or.inl ⟨by kernel_rfl, fun w' hSw => (by have hc : w'.cell? ⟨w.heap.size + 1, 18, none⟩ = some (.string ⟨#[45, 51, 50, 55, 54, 56]⟩) := row_cell hSw.2.1; go_simp)⟩) (by assumption) ?_
  try simp only [Act.put, List.getElem_toArray, List.getElem_cons_zero, List.getElem_cons_succ, List.setIfInBounds_toArray, List.set_cons_zero, List.set_cons_succ]
  refine wpAnyH_take (i := 4) (v := (.bool true)) rfl (by kernel_rfl) (by kernel_rfl) (by kernel_rfl) (fun _ _ _ h => h) (Or.inl ⟨by kernel_rfl, fun w' hSw => (by go_simp)⟩) (by assumption) ?_
  try simp only [Act.put, List.getElem_toArray, List.getElem_cons_zero, List.getElem_cons_succ, List.setIfInBounds_toArray, List.set_cons_zero, List.set_cons_succ]
  refine wpAnyH_take (i := 5) (v := (.bool true)) rfl (by kernel_rfl) (by kernel_rfl) (by kernel_rfl) (fun _ _ _ h => h) (Or.inl ⟨by kernel_rfl, fun w' hSw => (by go_simp)⟩) (by assumption) ?_
  try simp only [Act.put, List.getElem_toArray, List.getElem_cons_zero, List.getElem_cons_succ, List.setIfInBounds_toArray, List.set_cons_zero, List.set_cons_succ]
  refine wpAnyH_take (i := 6) (v := (.agg #[.bool n.1, .slice va n.2.1.length vc, .int .i64 n.2.2])) rfl (by kernel_rfl) (by kernel_rfl) (by kernel_rfl) (fun _ _ _ h => h) (yieldsIf_load_mid (by kernel_rfl) 43 _ rfl w.heap.size 0 rfl [.bool n.1, .slice va n.2.1.length vc, .int .i64 n.2.2] _ (fun W hW => rng3 hW.1) Tryz.underlying43 rfl (by kernel_rfl)) (by assumption) ?_
  try simp only [Act.put, List.getElem_toArray, List.getElem_cons_zero, List.getElem_cons_succ, List.setIfInBounds_toArray, List.set_cons_zero, List.set_cons_succ]
  refine wpAnyH_take (i := 7) (v := (.slice (some ⟨w.heap.size + 1, 0, none⟩) 24 24)) rfl (by kernel_rfl) (by kernel_rfl) (by kernel_rfl) (fun _ _ _ h => h) (Or.inl ⟨by kernel_rfl, fun w' hSw => (by go_simp)⟩) (by assumption) ?_
  try simp only [Act.put, List.getElem_toArray, List.getElem_cons_zero, List.getElem_cons_succ, List.setIfInBounds_toArray, List.set_cons_zero, List.set_cons_succ]
  refine wpAnyH_take (i := 8) (v := (.int .i64 18)) rfl (by kernel_rfl) (by kernel_rfl) (by kernel_rfl) (fun _ _ _ h => h) (Or.inl ⟨by kernel_rfl, fun w' hSw => (by go_simp)⟩) (by assumption) ?_
  try simp only [Act.put, List.getElem_toArray, List.getElem_cons_zero, List.getElem_cons_succ, List.setIfInBounds_toArray, List.set_cons_zero, List.set_cons_succ]
  refine wpAnyH_take (i := 9) (v := (.pointer (some ⟨w.heap.size + 1, 18, none⟩))) rfl (by kernel_rfl) (by kernel_rfl) (by kernel_rfl) (fun _ _ _ h => h) (Or.inl ⟨by kernel_rfl, fun w' hSw => (by go_simp)⟩) (by assumption) ?_
  try simp only [Act.put, List.getElem_toArray, List.getElem_cons_zero, List.getElem_cons_succ, List.setIfInBounds_toArray, List.set_cons_zero, List.set_cons_succ]
  refine wpAnyH_take (i := 10) (v := (.string ⟨#[45, 51, 50, 55, 54, 56]⟩)) rfl (by kernel_rfl) (by kernel_rfl) (by kernel_rfl) (fun _ _ _ h => h) (Or.inl ⟨by kernel_rfl, fun w' hSw => (by have hc : w'.cell? ⟨w.heap.size + 1, 18, none⟩ = some (.string ⟨#[45, 51, 50, 55, 54, 56]⟩) := row_cell hSw.2.1; go_simp)⟩) (by assumption) ?_
  try simp only [Act.put, List.getElem_toArray, List.getElem_cons_zero, List.getElem_cons_succ, List.setIfInBounds_toArray, List.set_cons_zero, List.set_cons_succ]
  refine wpAnyH_ready (rs := [11]) (by kernel_rfl) (by simp) ?_
  refine AllReadyH.cons rfl (fun K hK => ?_) AllReadyH.nil
  go_simp
  refine Calls.mono (bound_r (n := (true, [3, 2, 7, 6, 8], 0)) ⟨#[45, 51, 50, 55, 54, 56]⟩ _ (by decide) pb7) ?_
  rintro e w9 ⟨rv, rfl, hb9, hrv⟩
  have hbb := HB.out.trans (hb9.mono HB.out.size)
  have hS9 := HK.out _ hbb
  clear HB hHeld
  have HB : Hid _ := hbb
  have HRV : Hid _ := hrv
  clear hbb hb9 hrv
  go_wp2_with fail
  refine hK.out _ _ hS9 (fun hHeld => ?_)
  clear hK K hS9
  try simp only [Act.put, List.getElem_toArray, List.getElem_cons_zero, List.getElem_cons_succ, List.setIfInBounds_toArray, List.set_cons_zero, List.set_cons_succ]
  refine wpAnyH_ready (rs := [12]) (by kernel_rfl) (by simp) ?_
  refine AllReadyH.cons rfl (fun K hK => ?_) AllReadyH.nil
  go_simp
  have hcr := Dc.cmp_r (HN.out _ HB.out) HRV.out
  refine Calls.mono hcr ?_
  clear hcr
  rintro e w9 ⟨rfl, hb9⟩
  have hbb := HB.out.trans (hb9.mono HB.out.size)
  have hS9 := HK.out _ hbb
  clear HB hHeld
  have HB : Hid _ := hbb
  clear hbb hb9
  rw [HCl]
  go_wp2_with fail
  refine hK.out _ _ hS9 (fun hHeld => ?_)
  clear hK K hS9
  try simp only [Act.put, List.getElem_toArray, List.getElem_cons_zero, List.getElem_cons_succ, List.setIfInBounds_toArray, List.set_cons_zero, List.set_cons_succ]
  refine wpAnyH_take (i := 13) (v := (.bool false)) rfl (by kernel_rfl) (by kernel_rfl) (by kernel_rfl) (fun _ _ _ h => h) (Or.inl ⟨by kernel_rfl, fun w' hSw => (by go_simp)⟩) (by assumption) ?_
  try simp only [Act.put, List.getElem_toArray, List.getElem_cons_zero, List.getElem_cons_succ, List.setIfInBounds_toArray, List.set_cons_zero, List.set_cons_succ]
  refine wpAnyH_take (i := 14) (v := (.bool false)) rfl (by kernel_rfl) (by kernel_rfl) (by kernel_rfl) (fun _ _ _ h => h) (Or.inl ⟨by kernel_rfl, fun w' hSw => (by go_simp)⟩) (by assumption) ?_
  try simp only [Act.put, List.getElem_toArray, List.getElem_cons_zero, List.getElem_cons_succ, List.setIfInBounds_toArray, List.set_cons_zero, List.set_cons_succ]
  refine wpAnyH_done (by kernel_rfl) ?_ _
  clear hHeld HRV
  go_upto_region 5 with fail
  by_cases hd : d ≤ 0
  · have hdd : decide (d ≤ 0) = true := by simpa using hd
    have HE : Hid (wiB 18 (Dc.nv n 0) = true) := by
      show _ = _
      have h2 := HW.out.2
      rw [HCh] at h2
      have h1 := HW.out.1
      rw [HCl] at h1
      have h3 := HCN.out
      unfold wiB
      simp
      omega
    clear hd
    have HB1 : Hid _ := HB.out
    clear HB
    have HB : Hid (Below U.heap.size U w9.drew) := HB1.out.trans ((Dc.Below.drewN' 1).mono HB1.out.size)
    refine wp_region_held_drew (S := fun W => W.heap[w.heap.size]? = some (.cells #[.bool n.1, .slice va n.2.1.length vc, .int .i64 n.2.2] 43 (0, 0)) ∧ W.heap[w.heap.size + 1]? = some (.cells loT 9 (0, 0)) ∧ W.heap[w.heap.size + 1 + 1]? = some (.cells hiT 9 (0, 0))) (by kernel_rfl) (HK.out _ HB.out) (fun hHeld => ?_)
    refine wpAnyH_take (i := 0) (v := (.slice (some ⟨w.heap.size + 1 + 1, 0, none⟩) 24 24)) rfl (by kernel_rfl) (by kernel_rfl) (by kernel_rfl) (fun _ _ _ h => h) (Or.inl ⟨by kernel_rfl, fun w' hSw => (by go_simp)⟩) (by assumption) ?_
    try simp only [Act.put, List.getElem_toArray, List.getElem_cons_zero, List.getElem_cons_succ, List.setIfInBounds_toArray, List.set_cons_zero, List.set_cons_succ]
    refine wpAnyH_take (i := 1) (v := (.int .i64 18)) rfl (by kernel_rfl) (by kernel_rfl) (by kernel_rfl) (fun _ _ _ h => h) (Or.inl ⟨by kernel_rfl, fun w' hSw => (by go_simp)⟩) (by assumption) ?_
    try simp only [Act.put, List.getElem_toArray, List.getElem_cons_zero, List.getElem_cons_succ, List.setIfInBounds_toArray, List.set_cons_zero, List.set_cons_succ]
    refine wpAnyH_take (i := 2) (v := (.pointer (some ⟨w.heap.size + 1 + 1, 18, none⟩))) rfl (by kernel_rfl) (by kernel_rfl) (by kernel_rfl) (fun _ _ _ h => h) (Or.inl ⟨by kernel_rfl, fun w' hSw => (by go_simp)⟩) (by assumption) ?_
    try simp only [Act.put, List.getElem_toArray, List.getElem_cons_zero, List.getElem_cons_succ, List.setIfInBounds_toArray, List.set_cons_zero, List.set_cons_succ]
    refine wpAnyH_take (i := 3) (v := (.string ⟨#[51, 50, 55, 54, 55]⟩)) rfl (by kernel_rfl) (by kernel_rfl) (by kernel_rfl) (fun _ _ _ h => h) (Or.inl ⟨by kernel_rfl, fun w' hSw => (by have hc : w'.cell? ⟨w.heap.size + 1 + 1, 18, none⟩ = some (.string ⟨#[51, 50, 55, 54, 55]⟩) := row_cell hSw.2.2; go_simp)⟩) (by assumption) ?_
    try simp only [Act.put, List.getElem_toArray, List.getElem_cons_zero, List.getElem_cons_succ, List.setIfInBounds_toArray, List.set_cons_zero, List.set_cons_succ]
    refine wpAnyH_take (i := 4) (v := (.bool false)) rfl (by kernel_rfl) (by kernel_rfl) (by kernel_rfl) (fun _ _ _ h => h) (Or.inl ⟨by kernel_rfl, fun w' hSw => (by go_simp)⟩) (by assumption) ?_
    try simp only [Act.put, List.getElem_toArray, List.getElem_cons_zero, List.getElem_cons_succ, List.setIfInBounds_toArray, List.set_cons_zero, List.set_cons_succ]
    refine wpAnyH_take (i := 5) (v := (.bool false)) rfl (by kernel_rfl) (by kernel_rfl) (by kernel_rfl) (fun _ _ _ h => h) (Or.inl ⟨by kernel_rfl, fun w' hSw => (by go_simp)⟩) (by assumption) ?_
    try simp only [Act.put, List.getElem_toArray, List.getElem_cons_zero, List.getElem_cons_succ, List.setIfInBounds_toArray, List.set_cons_zero, List.set_cons_succ]
    refine wpAnyH_take (i := 6) (v := (.agg #[.bool n.1, .slice va n.2.1.length vc, .int .i64 n.2.2])) rfl (by kernel_rfl) (by kernel_rfl) (by kernel_rfl) (fun _ _ _ h => h) (yieldsIf_load_mid (by kernel_rfl) 43 _ rfl w.heap.size 0 rfl [.bool n.1, .slice va n.2.1.length vc, .int .i64 n.2.2] _ (fun W hW => rng3 hW.1) Tryz.underlying43 rfl (by kernel_rfl)) (by assumption) ?_
    try simp only [Act.put, List.getElem_toArray, List.getElem_cons_zero, List.getElem_cons_succ, List.setIfInBounds_toArray, List.set_cons_zero, List.set_cons_succ]
    refine wpAnyH_take (i := 7) (v := (.slice (some ⟨w.heap.size + 1 + 1, 0, none⟩) 24 24)) rfl (by kernel_rfl) (by kernel_rfl) (by kernel_rfl) (fun _ _ _ h => h) (Or.inl ⟨by kernel_rfl, fun w' hSw => (by go_simp)⟩) (by assumption) ?_
    try simp only [Act.put, List.getElem_toArray, List.getElem_cons_zero, List.getElem_cons_succ, List.setIfInBounds_toArray, List.set_cons_zero, List.set_cons_succ]
    refine wpAnyH_take (i := 8) (v := (.int .i64 18)) rfl (by kernel_rfl) (by kernel_rfl) (by kernel_rfl) (fun _ _ _ h => h) (Or.inl ⟨by kernel_rfl, fun w' hSw => (by go_simp)⟩) (by assumption) ?_
    try simp only [Act.put, List.getElem_toArray, List.getElem_cons_zero, List.getElem_cons_succ, List.setIfInBounds_toArray, List.set_cons_zero, List.set_cons_succ]
    refine wpAnyH_take (i := 9) (v := (.pointer (some ⟨w.heap.size + 1 + 1, 18, none⟩))) rfl (by kernel_rfl) (by kernel_rfl) (by kernel_rfl) (fun _ _ _ h => h) (Or.inl ⟨by kernel_rfl, fun w' hSw => (by go_simp)⟩) (by assumption) ?_
    try simp only [Act.put, List.getElem_toArray, List.getElem_cons_zero, List.getElem_cons_succ, List.setIfInBounds_toArray, List.set_cons_zero, List.set_cons_succ]
    refine wpAnyH_take (i := 10) (v := (.string ⟨#[51, 50, 55, 54, 55]⟩)) rfl (by kernel_rfl) (by kernel_rfl) (by kernel_rfl) (fun _ _ _ h => h) (Or.inl ⟨by kernel_rfl, fun w' hSw => (by have hc : w'.cell? ⟨w.heap.size + 1 + 1, 18, none⟩ = some (.string ⟨#[51, 50, 55, 54, 55]⟩) := row_cell hSw.2.2; go_simp)⟩) (by assumption) ?_
    try simp only [Act.put, List.getElem_toArray, List.getElem_cons_zero, List.getElem_cons_succ, List.setIfInBounds_toArray, List.set_cons_zero, List.set_cons_succ]
    refine wpAnyH_ready (rs := [11]) (by kernel_rfl) (by simp) ?_
    refine AllReadyH.cons rfl (fun K hK => ?_) AllReadyH.nil
    go_simp
    refine Calls.mono (bound_r (n := (false, [3, 2, 7, 6, 7], 0)) ⟨#[51, 50, 55, 54, 55]⟩ _ (by decide) pb8) ?_
    rintro e w9 ⟨rv, rfl, hb9, hrv⟩
    have hbb := HB.out.trans (hb9.mono HB.out.size)
    have hS9 := HK.out _ hbb
    clear HB hHeld
    have HB : Hid _ := hbb
    have HRV : Hid _ := hrv
    clear hbb hb9 hrv
    go_wp2_with fail
    refine hK.out _ _ hS9 (fun hHeld => ?_)
    clear hK K hS9
    try simp only [Act.put, List.getElem_toArray, List.getElem_cons_zero, List.getElem_cons_succ, List.setIfInBounds_toArray, List.set_cons_zero, List.set_cons_succ]
    refine wpAnyH_ready (rs := [12]) (by kernel_rfl) (by simp) ?_
    refine AllReadyH.cons rfl (fun K hK => ?_) AllReadyH.nil
    go_simp
    have hcr := Dc.cmp_r (HN.out _ HB.out) HRV.out
    refine Calls.mono hcr ?_
    clear hcr
    rintro e w9 ⟨rfl, hb9⟩
    have hbb := HB.out.trans (hb9.mono HB.out.size)
    have hS9 := HK.out _ hbb
    clear HB hHeld
    have HB : Hid _ := hbb
    clear hbb hb9
    rw [HCh]
    go_wp2_with fail
    refine hK.out _ _ hS9 (fun hHeld => ?_)
    clear hK K hS9
    try simp only [Act.put, List.getElem_toArray, List.getElem_cons_zero, List.getElem_cons_succ, List.setIfInBounds_toArray, List.set_cons_zero, List.set_cons_succ]
    refine wpAnyH_take (i := 13) (v := (.bool true)) rfl (by kernel_rfl) (by kernel_rfl) (by kernel_rfl) (fun _ _ _ h => h) (Or.inl ⟨by kernel_rfl, fun w' hSw => (by go_simp)⟩) (by assumption) ?_
    try simp only [Act.put, List.getElem_toArray, List.getElem_cons_zero, List.getElem_cons_succ, List.setIfInBounds_toArray, List.set_cons_zero, List.set_cons_succ]
    refine wpAnyH_take (i := 14) (v := (.bool true)) rfl (by kernel_rfl) (by kernel_rfl) (by kernel_rfl) (fun _ _ _ h => h) (Or.inl ⟨by kernel_rfl, fun w' hSw => (by go_simp)⟩) (by assumption) ?_
    try simp only [Act.put, List.getElem_toArray, List.getElem_cons_zero, List.getElem_cons_succ, List.setIfInBounds_toArray, List.set_cons_zero, List.set_cons_succ]
    refine wpAnyH_take (i := 15) (v := (.bool true)) rfl (by kernel_rfl) (by kernel_rfl) (by kernel_rfl) (fun _ _ _ h => h) (Or.inl ⟨by kernel_rfl, fun w' hSw => (by go_simp)⟩) (by assumption) ?_
    try simp only [Act.put, List.getElem_toArray, List.getElem_cons_zero, List.getElem_cons_succ, List.setIfInBounds_toArray, List.set_cons_zero, List.set_cons_succ]
    refine wpAnyH_done (by kernel_rfl) ?_ _
    go_wp2_with fail
    go_ret
    exact ⟨ret_b HE.out.symm, HU.out.trans (HB.out.mono HU.out.size)⟩
  · have hdd : decide (d ≤ 0) = false := by simpa using hd
    have HE : Hid (wiB 18 (Dc.nv n 0) = false) := by
      show _ = _
      have h2 := HW.out.2
      rw [HCh] at h2
      have h1 := HW.out.1
      rw [HCl] at h1
      have h3 := HCN.out
      unfold wiB
      simp
      omega
    clear hd
    have HB1 : Hid _ := HB.out
    clear HB
    have HB : Hid (Below U.heap.size U w9.drew) := HB1.out.trans ((Dc.Below.drewN' 1).mono HB1.out.size)
    refine wp_region_held_drew (S := fun W => W.heap[w.heap.size]? = some (.cells #[.bool n.1, .slice va n.2.1.length vc, .int .i64 n.2.2] 43 (0, 0)) ∧ W.heap[w.heap.size + 1]? = some (.cells loT 9 (0, 0)) ∧ W.heap[w.heap.size + 1 + 1]? = some (.cells hiT 9 (0, 0))) (by kernel_rfl) (HK.out _ HB.out) (fun hHeld => ?_)
    refine wpAnyH_take (i := 0) (v := (.slice (some ⟨w.heap.size + 1 + 1, 0, none⟩) 24 24)) rfl (by kernel_rfl) (by kernel_rfl) (by kernel_rfl) (fun _ _ _ h => h) (Or.inl ⟨by kernel_rfl, fun w' hSw => (by go_simp)⟩) (by assumption) ?_
    try simp only [Act.put, List.getElem_toArray, List.getElem_cons_zero, List.getElem_cons_succ, List.setIfInBounds_toArray, List.set_cons_zero, List.set_cons_succ]
    refine wpAnyH_take (i := 1) (v := (.int .i64 18)) rfl (by kernel_rfl) (by kernel_rfl) (by kernel_rfl) (fun _ _ _ h => h) (Or.inl ⟨by kernel_rfl, fun w' hSw => (by go_simp)⟩) (by assumption) ?_
    try simp only [Act.put, List.getElem_toArray, List.getElem_cons_zero, List.getElem_cons_succ, List.setIfInBounds_toArray, List.set_cons_zero, List.set_cons_succ]
    refine wpAnyH_take (i := 2) (v := (.pointer (some ⟨w.heap.size + 1 + 1, 18, none⟩))) rfl (by kernel_rfl) (by kernel_rfl) (by kernel_rfl) (fun _ _ _ h => h) (Or.inl ⟨by kernel_rfl, fun w' hSw => (by go_simp)⟩) (by assumption) ?_
    try simp only [Act.put, List.getElem_toArray, List.getElem_cons_zero, List.getElem_cons_succ, List.setIfInBounds_toArray, List.set_cons_zero, List.set_cons_succ]
    refine wpAnyH_take (i := 3) (v := (.string ⟨#[51, 50, 55, 54, 55]⟩)) rfl (by kernel_rfl) (by kernel_rfl) (by kernel_rfl) (fun _ _ _ h => h) (Or.inl ⟨by kernel_rfl, fun w' hSw => (by have hc : w'.cell? ⟨w.heap.size + 1 + 1, 18, none⟩ = some (.string ⟨#[51, 50, 55, 54, 55]⟩) := row_cell hSw.2.2; go_simp)⟩) (by assumption) ?_
    try simp only [Act.put, List.getElem_toArray, List.getElem_cons_zero, List.getElem_cons_succ, List.setIfInBounds_toArray, List.set_cons_zero, List.set_cons_succ]
    refine wpAnyH_take (i := 4) (v := (.bool false)) rfl (by kernel_rfl) (by kernel_rfl) (by kernel_rfl) (fun _ _ _ h => h) (Or.inl ⟨by kernel_rfl, fun w' hSw => (by go_simp)⟩) (by assumption) ?_
    try simp only [Act.put, List.getElem_toArray, List.getElem_cons_zero, List.getElem_cons_succ, List.setIfInBounds_toArray, List.set_cons_zero, List.set_cons_succ]
    refine wpAnyH_take (i := 5) (v := (.bool false)) rfl (by kernel_rfl) (by kernel_rfl) (by kernel_rfl) (fun _ _ _ h => h) (Or.inl ⟨by kernel_rfl, fun w' hSw => (by go_simp)⟩) (by assumption) ?_
    try simp only [Act.put, List.getElem_toArray, List.getElem_cons_zero, List.getElem_cons_succ, List.setIfInBounds_toArray, List.set_cons_zero, List.set_cons_succ]
    refine wpAnyH_take (i := 6) (v := (.agg #[.bool n.1, .slice va n.2.1.length vc, .int .i64 n.2.2])) rfl (by kernel_rfl) (by kernel_rfl) (by kernel_rfl) (fun _ _ _ h => h) (yieldsIf_load_mid (by kernel_rfl) 43 _ rfl w.heap.size 0 rfl [.bool n.1, .slice va n.2.1.length vc, .int .i64 n.2.2] _ (fun W hW => rng3 hW.1) Tryz.underlying43 rfl (by kernel_rfl)) (by assumption) ?_
    try simp only [Act.put, List.getElem_toArray, List.getElem_cons_zero, List.getElem_cons_succ, List.setIfInBounds_toArray, List.set_cons_zero, List.set_cons_succ]
    refine wpAnyH_take (i := 7) (v := (.slice (some ⟨w.heap.size + 1 + 1, 0, none⟩) 24 24)) rfl (by kernel_rfl) (by kernel_rfl) (by kernel_rfl) (fun _ _ _ h => h) (Or.inl ⟨by kernel_rfl, fun w' hSw => (by go_simp)⟩) (by assumption) ?_
    try simp only [Act.put, List.getElem_toArray, List.getElem_cons_zero, List.getElem_cons_succ, List.setIfInBounds_toArray, List.set_cons_zero, List.set_cons_succ]
    refine wpAnyH_take (i := 8) (v := (.int .i64 18)) rfl (by kernel_rfl) (by kernel_rfl) (by kernel_rfl) (fun _ _ _ h => h) (Or.inl ⟨by kernel_rfl, fun w' hSw => (by go_simp)⟩) (by assumption) ?_
    try simp only [Act.put, List.getElem_toArray, List.getElem_cons_zero, List.getElem_cons_succ, List.setIfInBounds_toArray, List.set_cons_zero, List.set_cons_succ]
    refine wpAnyH_take (i := 9) (v := (.pointer (some ⟨w.heap.size + 1 + 1, 18, none⟩))) rfl (by kernel_rfl) (by kernel_rfl) (by kernel_rfl) (fun _ _ _ h => h) (Or.inl ⟨by kernel_rfl, fun w' hSw => (by go_simp)⟩) (by assumption) ?_
    try simp only [Act.put, List.getElem_toArray, List.getElem_cons_zero, List.getElem_cons_succ, List.setIfInBounds_toArray, List.set_cons_zero, List.set_cons_succ]
    refine wpAnyH_take (i := 10) (v := (.string ⟨#[51, 50, 55, 54, 55]⟩)) rfl (by kernel_rfl) (by kernel_rfl) (by kernel_rfl) (fun _ _ _ h => h) (Or.inl ⟨by kernel_rfl, fun w' hSw => (by have hc : w'.cell? ⟨w.heap.size + 1 + 1, 18, none⟩ = some (.string ⟨#[51, 50, 55, 54, 55]⟩) := row_cell hSw.2.2; go_simp)⟩) (by assumption) ?_
    try simp only [Act.put, List.getElem_toArray, List.getElem_cons_zero, List.getElem_cons_succ, List.setIfInBounds_toArray, List.set_cons_zero, List.set_cons_succ]
    refine wpAnyH_ready (rs := [11]) (by kernel_rfl) (by simp) ?_
    refine AllReadyH.cons rfl (fun K hK => ?_) AllReadyH.nil
    go_simp
    refine Calls.mono (bound_r (n := (false, [3, 2, 7, 6, 7], 0)) ⟨#[51, 50, 55, 54, 55]⟩ _ (by decide) pb8) ?_
    rintro e w9 ⟨rv, rfl, hb9, hrv⟩
    have hbb := HB.out.trans (hb9.mono HB.out.size)
    have hS9 := HK.out _ hbb
    clear HB hHeld
    have HB : Hid _ := hbb
    have HRV : Hid _ := hrv
    clear hbb hb9 hrv
    go_wp2_with fail
    refine hK.out _ _ hS9 (fun hHeld => ?_)
    clear hK K hS9
    try simp only [Act.put, List.getElem_toArray, List.getElem_cons_zero, List.getElem_cons_succ, List.setIfInBounds_toArray, List.set_cons_zero, List.set_cons_succ]
    refine wpAnyH_ready (rs := [12]) (by kernel_rfl) (by simp) ?_
    refine AllReadyH.cons rfl (fun K hK => ?_) AllReadyH.nil
    go_simp
    have hcr := Dc.cmp_r (HN.out _ HB.out) HRV.out
    refine Calls.mono hcr ?_
    clear hcr
    rintro e w9 ⟨rfl, hb9⟩
    have hbb := HB.out.trans (hb9.mono HB.out.size)
    have hS9 := HK.out _ hbb
    clear HB hHeld
    have HB : Hid _ := hbb
    clear hbb hb9
    rw [HCh]
    go_wp2_with fail
    refine hK.out _ _ hS9 (fun hHeld => ?_)
    clear hK K hS9
    try simp only [Act.put, List.getElem_toArray, List.getElem_cons_zero, List.getElem_cons_succ, List.setIfInBounds_toArray, List.set_cons_zero, List.set_cons_succ]
    refine wpAnyH_take (i := 13) (v := (.bool false)) rfl (by kernel_rfl) (by kernel_rfl) (by kernel_rfl) (fun _ _ _ h => h) (Or.inl ⟨by kernel_rfl, fun w' hSw => (by go_simp)⟩) (by assumption) ?_
    try simp only [Act.put, List.getElem_toArray, List.getElem_cons_zero, List.getElem_cons_succ, List.setIfInBounds_toArray, List.set_cons_zero, List.set_cons_succ]
    refine wpAnyH_take (i := 14) (v := (.bool false)) rfl (by kernel_rfl) (by kernel_rfl) (by kernel_rfl) (fun _ _ _ h => h) (Or.inl ⟨by kernel_rfl, fun w' hSw => (by go_simp)⟩) (by assumption) ?_
    try simp only [Act.put, List.getElem_toArray, List.getElem_cons_zero, List.getElem_cons_succ, List.setIfInBounds_toArray, List.set_cons_zero, List.set_cons_succ]
    refine wpAnyH_take (i := 15) (v := (.bool false)) rfl (by kernel_rfl) (by kernel_rfl) (by kernel_rfl) (fun _ _ _ h => h) (Or.inl ⟨by kernel_rfl, fun w' hSw => (by go_simp)⟩) (by assumption) ?_
    try simp only [Act.put, List.getElem_toArray, List.getElem_cons_zero, List.getElem_cons_succ, List.setIfInBounds_toArray, List.set_cons_zero, List.set_cons_succ]
    refine wpAnyH_done (by kernel_rfl) ?_ _
    go_wp2_with fail
    go_ret
    exact ⟨ret_b HE.out.symm, HU.out.trans (HB.out.mono HU.out.size)⟩
set_option maxRecDepth 100000 in
set_option maxHeartbeats 6400000 in
theorem within_19 {w : World} {v : Value} {n : Dc.Nm} (hn : Dc.NmR w v n) (h0 : n.2.2 = 0) : Calls Tryz.prog 43 #[.int .i64 19, Dc.nmV n.1 v n.2.2] w fun e w' => e = .returned (.bool (wiB 19 (Dc.nv n 0))) ∧ Below w.heap.size w w' := by
  have hl := (cmp_whole hn.cn h0 pb9c rfl).1
  rw [pb9v] at hl
  have hh := (cmp_whole hn.cn h0 pb10c rfl).2
  rw [pb10v] at hh
  have HW : Hid ((Dc.cmpS n (true, [1, 2, 8], 0) < 0 ↔ Dc.nv n 0 < -128) ∧ (Dc.cmpS n (false, [1, 2, 7], 0) ≤ 0 ↔ Dc.nv n 0 ≤ 127)) := ⟨hl, hh⟩
  clear hl hh
  obtain ⟨va, vc, rfl, _⟩ := hn.bt.form
  have hx := M.nw_heap w (.cells #[.bool n.1, .slice va n.2.1.length vc, .int .i64 n.2.2] 43)
  have hb1 : Below w.heap.size w (((w.alloc (.cells #[.bool n.1, .slice va n.2.1.length vc, .int .i64 n.2.2] 43)).alloc (.cells loT 9)).alloc (.cells hiT 9)) := bel3 w _ _ _
  have hS := blocks3 w (.cells #[.bool n.1, .slice va n.2.1.length vc, .int .i64 n.2.2] 43) (.cells loT 9) (.cells hiT 9)
  obtain ⟨U, hU⟩ : ∃ U, ((w.alloc (.cells #[.bool n.1, .slice va n.2.1.length vc, .int .i64 n.2.2] 43)).alloc (.cells loT 9)).alloc (.cells hiT 9) = U := ⟨_, rfl⟩
  rw [hU] at hb1 hS
  have HN : Hid _ := fun W (hW : Below U.heap.size U W) => hn.below (hb1.trans (hW.mono hb1.size))
  have HK : Hid (∀ W, Below U.heap.size U W → _ ∧ _ ∧ _) := fun W hW => And.intro ((hW.block _ (Dc.lt_of hS.1)).trans hS.1) (And.intro ((hW.block _ (Dc.lt_of hS.2.1)).trans hS.2.1) ((hW.block _ (Dc.lt_of hS.2.2)).trans hS.2.2))
  have HU : Hid _ := hb1
  clear hx hb1 hS hn h0
  obtain ⟨c, HCl⟩ : ∃ c, Dc.cmpS n (true, [1, 2, 8], 0) = c := ⟨_, rfl⟩
  obtain ⟨d, HCh⟩ : ∃ d, Dc.cmpS n (false, [1, 2, 7], 0) = d := ⟨_, rfl⟩
  go_enter Tryz.func43, Tryz.ntmps43
  go_upto_region 3 with fail
  try rw [show ((w.alloc (.cells #[.bool n.1, .slice va n.2.1.length vc, .int .i64 n.2.2] 43)).alloc (.cells #[.string ⟨#[]⟩, .string ⟨#[]⟩, .string ⟨#[]⟩, .string ⟨#[]⟩, .string ⟨#[]⟩, .string ⟨#[]⟩, .string ⟨#[]⟩, .string ⟨#[]⟩, .string ⟨#[]⟩, .string ⟨#[]⟩, .string ⟨#[]⟩, .string ⟨#[]⟩, .string ⟨#[]⟩, .string ⟨#[]⟩, .string ⟨#[48]⟩, .string ⟨#[49]⟩, .string ⟨#[45, 57, 50, 50, 51, 51, 55, 50, 48, 51, 54, 56, 53, 52, 55, 55, 53, 56, 48, 56]⟩, .string ⟨#[45, 50, 49, 52, 55, 52, 56, 51, 54, 52, 56]⟩, .string ⟨#[45, 51, 50, 55, 54, 56]⟩, .string ⟨#[45, 49, 50, 56]⟩, .string ⟨#[48]⟩, .string ⟨#[48]⟩, .string ⟨#[48]⟩, .string ⟨#[48]⟩] 9)).alloc (.cells #[.string ⟨#[]⟩, .string ⟨#[]⟩, .string ⟨#[]⟩, .string ⟨#[]⟩, .string ⟨#[]⟩, .string ⟨#[]⟩, .string ⟨#[]⟩, .string ⟨#[]⟩, .string ⟨#[]⟩, .string ⟨#[]⟩, .string ⟨#[]⟩, .string ⟨#[]⟩, .string ⟨#[48]⟩, .string ⟨#[45, 49]⟩, .string ⟨#[]⟩, .string ⟨#[]⟩, .string ⟨#[57, 50, 50, 51, 51, 55, 50, 48, 51, 54, 56, 53, 52, 55, 55, 53, 56, 48, 55]⟩, .string ⟨#[50, 49, 52, 55, 52, 56, 51, 54, 52, 55]⟩, .string ⟨#[51, 50, 55, 54, 55]⟩, .string ⟨#[49, 50, 55]⟩, .string ⟨#[49, 56, 52, 52, 54, 55, 52, 52, 48, 55, 51, 55, 48, 57, 53, 53, 49, 54, 49, 53]⟩, .string ⟨#[52, 50, 57, 52, 57, 54, 55, 50, 57, 53]⟩, .string ⟨#[54, 53, 53, 51, 53]⟩, .string ⟨#[50, 53, 53]⟩] 9) = U from hU]
  clear hU
  have HB : Hid (Below U.heap.size U U.drew) := Dc.Below.drewN' 1
  by_cases hc : c < 0
  · have hcd : decide (c < 0) = true := by simpa using hc
    have HE : Hid (wiB 19 (Dc.nv n 0) = false) := by
      show _ = _
      have := HW.out.1
      rw [HCl] at this
      unfold wiB
      simp
      omega
    clear hc
    refine wp_region_held_drew (S := fun W => W.heap[w.heap.size]? = some (.cells #[.bool n.1, .slice va n.2.1.length vc, .int .i64 n.2.2] 43 (0, 0)) ∧ W.heap[w.heap.size + 1]? = some (.cells loT 9 (0, 0)) ∧ W.heap[w.heap.size + 1 + 1]? = some (.cells hiT 9 (0, 0))) (by kernel_rfl) (HK.out _ HB.out) (fun hHeld => ?_)
    refine wpAnyH_take (i := 0) (v := (.slice (some ⟨w.heap.size + 1, 0, none⟩) 24 24)) rfl (by kernel_rfl) (by kernel_rfl) (by kernel_rfl) (fun _ _ _ h => h) (Or.inl ⟨by kernel_rfl, fun w' hSw => (by go_simp)⟩) (by assumption) ?_
    try simp only [Act.put, List.getElem_toArray, List.getElem_cons_zero, List.getElem_cons_succ, List.setIfInBounds_toArray, List.set_cons_zero, List.set_cons_succ]
    refine wpAnyH_take (i := 1) (v := (.int .i64 19)) rfl (by kernel_rfl) (by kernel_rfl) (by kernel_rfl) (fun _ _ _ h => h) (Or.inl ⟨by kernel_rfl, fun w' hSw => (by go_simp)⟩) (by assumption) ?_
    try simp only [Act.put, List.getElem_toArray, List.getElem_cons_zero, List.getElem_cons_succ, List.setIfInBounds_toArray, List.set_cons_zero, List.set_cons_succ]
    refine wpAnyH_take (i := 2) (v := (.pointer (some ⟨w.heap.size + 1, 19, none⟩))) rfl (by kernel_rfl) (by kernel_rfl) (by kernel_rfl) (fun _ _ _ h => h) (Or.inl ⟨by kernel_rfl, fun w' hSw => (by go_simp)⟩) (by assumption) ?_
    try simp only [Act.put, List.getElem_toArray, List.getElem_cons_zero, List.getElem_cons_succ, List.setIfInBounds_toArray, List.set_cons_zero, List.set_cons_succ]
    refine wpAnyH_take (i := 3) (v := (.string ⟨#[45, 49, 50, 56]⟩)) rfl (by kernel_rfl) (by kernel_rfl) (by kernel_rfl) (fun _ _ _ h => h) (Or.inl ⟨by kernel_rfl, fun w' hSw => (by have hc : w'.cell? ⟨w.heap.size + 1, 19, none⟩ = some (.string ⟨#[45, 49, 50, 56]⟩) := row_cell hSw.2.1; go_simp)⟩) (by assumption) ?_
    try simp only [Act.put, List.getElem_toArray, List.getElem_cons_zero, List.getElem_cons_succ, List.setIfInBounds_toArray, List.set_cons_zero, List.set_cons_succ]
    refine wpAnyH_take (i := 4) (v := (.bool true)) rfl (by kernel_rfl) (by kernel_rfl) (by kernel_rfl) (fun _ _ _ h => h) (Or.inl ⟨by kernel_rfl, fun w' hSw => (by go_simp)⟩) (by assumption) ?_
    try simp only [Act.put, List.getElem_toArray, List.getElem_cons_zero, List.getElem_cons_succ, List.setIfInBounds_toArray, List.set_cons_zero, List.set_cons_succ]
    refine wpAnyH_take (i := 5) (v := (.bool true)) rfl (by kernel_rfl) (by kernel_rfl) (by kernel_rfl) (fun _ _ _ h => h) (Or.inl ⟨by kernel_rfl, fun w' hSw => (by go_simp)⟩) (by assumption) ?_
    try simp only [Act.put, List.getElem_toArray, List.getElem_cons_zero, List.getElem_cons_succ, List.setIfInBounds_toArray, List.set_cons_zero, List.set_cons_succ]
    refine wpAnyH_take (i := 6) (v := (.agg #[.bool n.1, .slice va n.2.1.length vc, .int .i64 n.2.2])) rfl (by kernel_rfl) (by kernel_rfl) (by kernel_rfl) (fun _ _ _ h => h) (yieldsIf_load_mid (by kernel_rfl) 43 _ rfl w.heap.size 0 rfl [.bool n.1, .slice va n.2.1.length vc, .int .i64 n.2.2] _ (fun W hW => rng3 hW.1) Tryz.underlying43 rfl (by kernel_rfl)) (by assumption) ?_
    try simp only [Act.put, List.getElem_toArray, List.getElem_cons_zero, List.getElem_cons_succ, List.setIfInBounds_toArray, List.set_cons_zero, List.set_cons_succ]
    refine wpAnyH_take (i := 7) (v := (.slice (some ⟨w.heap.size + 1, 0, none⟩) 24 24)) rfl (by kernel_rfl) (by kernel_rfl) (by kernel_rfl) (fun _ _ _ h => h) (Or.inl ⟨by kernel_rfl, fun w' hSw => (by go_simp)⟩) (by assumption) ?_
    try simp only [Act.put, List.getElem_toArray, List.getElem_cons_zero, List.getElem_cons_succ, List.setIfInBounds_toArray, List.set_cons_zero, List.set_cons_succ]
    refine wpAnyH_take (i := 8) (v := (.int .i64 19)) rfl (by kernel_rfl) (by kernel_rfl) (by kernel_rfl) (fun _ _ _ h => h) (Or.inl ⟨by kernel_rfl, fun w' hSw => (by go_simp)⟩) (by assumption) ?_
    try simp only [Act.put, List.getElem_toArray, List.getElem_cons_zero, List.getElem_cons_succ, List.setIfInBounds_toArray, List.set_cons_zero, List.set_cons_succ]
    refine wpAnyH_take (i := 9) (v := (.pointer (some ⟨w.heap.size + 1, 19, none⟩))) rfl (by kernel_rfl) (by kernel_rfl) (by kernel_rfl) (fun _ _ _ h => h) (Or.inl ⟨by kernel_rfl, fun w' hSw => (by go_simp)⟩) (by assumption) ?_
    try simp only [Act.put, List.getElem_toArray, List.getElem_cons_zero, List.getElem_cons_succ, List.setIfInBounds_toArray, List.set_cons_zero, List.set_cons_succ]
    refine wpAnyH_take (i := 10) (v := (.string ⟨#[45, 49, 50, 56]⟩)) rfl (by kernel_rfl) (by kernel_rfl) (by kernel_rfl) (fun _ _ _ h => h) (Or.inl ⟨by kernel_rfl, fun w' hSw => (by have hc : w'.cell? ⟨w.heap.size + 1, 19, none⟩ = some (.string ⟨#[45, 49, 50, 56]⟩) := row_cell hSw.2.1; go_simp)⟩) (by assumption) ?_
    try simp only [Act.put, List.getElem_toArray, List.getElem_cons_zero, List.getElem_cons_succ, List.setIfInBounds_toArray, List.set_cons_zero, List.set_cons_succ]
    refine wpAnyH_ready (rs := [11]) (by kernel_rfl) (by simp) ?_
    refine AllReadyH.cons rfl (fun K hK => ?_) AllReadyH.nil
    go_simp
    refine Calls.mono (bound_r (n := (true, [1, 2, 8], 0)) ⟨#[45, 49, 50, 56]⟩ _ (by decide) pb9) ?_
    rintro e w9 ⟨rv, rfl, hb9, hrv⟩
    have hbb := HB.out.trans (hb9.mono HB.out.size)
    have hS9 := HK.out _ hbb
    clear HB hHeld
    have HB : Hid _ := hbb
    have HRV : Hid _ := hrv
    clear hbb hb9 hrv
    go_wp2_with fail
    refine hK.out _ _ hS9 (fun hHeld => ?_)
    clear hK K hS9
    try simp only [Act.put, List.getElem_toArray, List.getElem_cons_zero, List.getElem_cons_succ, List.setIfInBounds_toArray, List.set_cons_zero, List.set_cons_succ]
    refine wpAnyH_ready (rs := [12]) (by kernel_rfl) (by simp) ?_
    refine AllReadyH.cons rfl (fun K hK => ?_) AllReadyH.nil
    go_simp
    have hcr := Dc.cmp_r (HN.out _ HB.out) HRV.out
    refine Calls.mono hcr ?_
    clear hcr
    rintro e w9 ⟨rfl, hb9⟩
    have hbb := HB.out.trans (hb9.mono HB.out.size)
    have hS9 := HK.out _ hbb
    clear HB hHeld
    have HB : Hid _ := hbb
    clear hbb hb9
    rw [HCl]
    go_wp2_with fail
    refine hK.out _ _ hS9 (fun hHeld => ?_)
    clear hK K hS9
    try simp only [Act.put, List.getElem_toArray, List.getElem_cons_zero, List.getElem_cons_succ, List.setIfInBounds_toArray, List.set_cons_zero, List.set_cons_succ]
    refine wpAnyH_take (i := 13) (v := (.bool true)) rfl (by kernel_rfl) (by kernel_rfl) (by kernel_rfl) (fun _ _ _ h => h) (Or.inl ⟨by kernel_rfl, fun w' hSw => (by go_simp)⟩) (by assumption) ?_
    try simp only [Act.put, List.getElem_toArray, List.getElem_cons_zero, List.getElem_cons_succ, List.setIfInBounds_toArray, List.set_cons_zero, List.set_cons_succ]
    refine wpAnyH_take (i := 14) (v := (.bool true)) rfl (by kernel_rfl) (by kernel_rfl) (by kernel_rfl) (fun _ _ _ h => h) (Or.inl ⟨by kernel_rfl, fun w' hSw => (by go_simp)⟩) (by assumption) ?_
    try simp only [Act.put, List.getElem_toArray, List.getElem_cons_zero, List.getElem_cons_succ, List.setIfInBounds_toArray, List.set_cons_zero, List.set_cons_succ]
    refine wpAnyH_done (by kernel_rfl) ?_ _
    clear hHeld
    go_wp2_with fail
    go_ret
    exact ⟨ret_b HE.out.symm, HU.out.trans (HB.out.mono HU.out.size)⟩
  have hcd : decide (c < 0) = false := by simpa using hc
  have HCN : Hid (¬ c < 0) := hc
  clear hc
  refine wp_region_held_drew (S := fun W => W.heap[w.heap.size]? = some (.cells #[.bool n.1, .slice va n.2.1.length vc, .int .i64 n.2.2] 43 (0, 0)) ∧ W.heap[w.heap.size + 1]? = some (.cells loT 9 (0, 0)) ∧ W.heap[w.heap.size + 1 + 1]? = some (.cells hiT 9 (0, 0))) (by kernel_rfl) (HK.out _ HB.out) (fun hHeld => ?_)
  refine wpAnyH_take (i := 0) (v := (.slice (some ⟨w.heap.size + 1, 0, none⟩) 24 24)) rfl (by kernel_rfl) (by kernel_rfl) (by kernel_rfl) (fun _ _ _ h => h) (Or.inl ⟨by kernel_rfl, fun w' hSw => (by go_simp)⟩) (by assumption) ?_
  try simp only [Act.put, List.getElem_toArray, List.getElem_cons_zero, List.getElem_cons_succ, List.setIfInBounds_toArray, List.set_cons_zero, List.set_cons_succ]
  refine wpAnyH_take (i := 1) (v := (.int .i64 19)) rfl (by kernel_rfl) (by kernel_rfl) (by kernel_rfl) (fun _ _ _ h => h) (Or.inl ⟨by kernel_rfl, fun w' hSw => (by go_simp)⟩) (by assumption) ?_
  try simp only [Act.put, List.getElem_toArray, List.getElem_cons_zero, List.getElem_cons_succ, List.setIfInBounds_toArray, List.set_cons_zero, List.set_cons_succ]
  refine wpAnyH_take (i := 2) (v := (.pointer (some ⟨w.heap.size + 1, 19, none⟩))) rfl (by kernel_rfl) (by kernel_rfl) (by kernel_rfl) (fun _ _ _ h => h) (Or.inl ⟨by kernel_rfl, fun w' hSw => (by go_simp)⟩) (by assumption) ?_
  try simp only [Act.put, List.getElem_toArray, List.getElem_cons_zero, List.getElem_cons_succ, List.setIfInBounds_toArray, List.set_cons_zero, List.set_cons_succ]
  refine wpAnyH_take (i := 3) (v := (.string ⟨#[45, 49, 50, 56]⟩)) rfl (by kernel_rfl) (by kernel_rfl) (by kernel_rfl) (fun _ _ _ h => h) (Or.inl ⟨by kernel_rfl, fun w' hSw => (by have hc : w'.cell? ⟨w.heap.size + 1, 19, none⟩ = some (.string ⟨#[45, 49, 50, 56]⟩) := row_cell hSw.2.1; go_simp)⟩) (by assumption) ?_
  try simp only [Act.put, List.getElem_toArray, List.getElem_cons_zero, List.getElem_cons_succ, List.setIfInBounds_toArray, List.set_cons_zero, List.set_cons_succ]
  refine wpAnyH_take (i := 4) (v := (.bool true)) rfl (by kernel_rfl) (by kernel_rfl) (by kernel_rfl) (fun _ _ _ h => h) (Or.inl ⟨by kernel_rfl, fun w' hSw => (by go_simp)⟩) (by assumption) ?_
  try simp only [Act.put, List.getElem_toArray, List.getElem_cons_zero, List.getElem_cons_succ, List.setIfInBounds_toArray, List.set_cons_zero, List.set_cons_succ]
  refine wpAnyH_take (i := 5) (v := (.bool true)) rfl (by kernel_rfl) (by kernel_rfl) (by kernel_rfl) (fun _ _ _ h => h) (Or.inl ⟨by kernel_rfl, fun w' hSw => (by go_simp)⟩) (by assumption) ?_
  try simp only [Act.put, List.getElem_toArray, List.getElem_cons_zero, List.getElem_cons_succ, List.setIfInBounds_toArray, List.set_cons_zero, List.set_cons_succ]
  refine wpAnyH_take (i := 6) (v := (.agg #[.bool n.1, .slice va n.2.1.length vc, .int .i64 n.2.2])) rfl (by kernel_rfl) (by kernel_rfl) (by kernel_rfl) (fun _ _ _ h => h) (yieldsIf_load_mid (by kernel_rfl) 43 _ rfl w.heap.size 0 rfl [.bool n.1, .slice va n.2.1.length vc, .int .i64 n.2.2] _ (fun W hW => rng3 hW.1) Tryz.underlying43 rfl (by kernel_rfl)) (by assumption) ?_
  try simp only [Act.put, List.getElem_toArray, List.getElem_cons_zero, List.getElem_cons_succ, List.setIfInBounds_toArray, List.set_cons_zero, List.set_cons_succ]
  refine wpAnyH_take (i := 7) (v := (.slice (some ⟨w.heap.size + 1, 0, none⟩) 24 24)) rfl (by kernel_rfl) (by kernel_rfl) (by kernel_rfl) (fun _ _ _ h => h) (Or.inl ⟨by kernel_rfl, fun w' hSw => (by go_simp)⟩) (by assumption) ?_
  try simp only [Act.put, List.getElem_toArray, List.getElem_cons_zero, List.getElem_cons_succ, List.setIfInBounds_toArray, List.set_cons_zero, List.set_cons_succ]
  refine wpAnyH_take (i := 8) (v := (.int .i64 19)) rfl (by kernel_rfl) (by kernel_rfl) (by kernel_rfl) (fun _ _ _ h => h) (Or.inl ⟨by kernel_rfl, fun w' hSw => (by go_simp)⟩) (by assumption) ?_
  try simp only [Act.put, List.getElem_toArray, List.getElem_cons_zero, List.getElem_cons_succ, List.setIfInBounds_toArray, List.set_cons_zero, List.set_cons_succ]
  refine wpAnyH_take (i := 9) (v := (.pointer (some ⟨w.heap.size + 1, 19, none⟩))) rfl (by kernel_rfl) (by kernel_rfl) (by kernel_rfl) (fun _ _ _ h => h) (Or.inl ⟨by kernel_rfl, fun w' hSw => (by go_simp)⟩) (by assumption) ?_
  try simp only [Act.put, List.getElem_toArray, List.getElem_cons_zero, List.getElem_cons_succ, List.setIfInBounds_toArray, List.set_cons_zero, List.set_cons_succ]
  refine wpAnyH_take (i := 10) (v := (.string ⟨#[45, 49, 50, 56]⟩)) rfl (by kernel_rfl) (by kernel_rfl) (by kernel_rfl) (fun _ _ _ h => h) (Or.inl ⟨by kernel_rfl, fun w' hSw => (by have hc : w'.cell? ⟨w.heap.size + 1, 19, none⟩ = some (.string ⟨#[45, 49, 50, 56]⟩) := row_cell hSw.2.1; go_simp)⟩) (by assumption) ?_
  try simp only [Act.put, List.getElem_toArray, List.getElem_cons_zero, List.getElem_cons_succ, List.setIfInBounds_toArray, List.set_cons_zero, List.set_cons_succ]
  refine wpAnyH_ready (rs := [11]) (by kernel_rfl) (by simp) ?_
  refine AllReadyH.cons rfl (fun K hK => ?_) AllReadyH.nil
  go_simp
  refine Calls.mono (bound_r (n := (true, [1, 2, 8], 0)) ⟨#[45, 49, 50, 56]⟩ _ (by decide) pb9) ?_
  rintro e w9 ⟨rv, rfl, hb9, hrv⟩
  have hbb := HB.out.trans (hb9.mono HB.out.size)
  have hS9 := HK.out _ hbb
  clear HB hHeld
  have HB : Hid _ := hbb
  have HRV : Hid _ := hrv
  clear hbb hb9 hrv
  go_wp2_with fail
  refine hK.out _ _ hS9 (fun hHeld => ?_)
  clear hK K hS9
  try simp only [Act.put, List.getElem_toArray, List.getElem_cons_zero, List.getElem_cons_succ, List.setIfInBounds_toArray, List.set_cons_zero, List.set_cons_succ]
  refine wpAnyH_ready (rs := [12]) (by kernel_rfl) (by simp) ?_
  refine AllReadyH.cons rfl (fun K hK => ?_) AllReadyH.nil
  go_simp
  have hcr := Dc.cmp_r (HN.out _ HB.out) HRV.out
  refine Calls.mono hcr ?_
  clear hcr
  rintro e w9 ⟨rfl, hb9⟩
  have hbb := HB.out.trans (hb9.mono HB.out.size)
  have hS9 := HK.out _ hbb
  clear HB hHeld
  have HB : Hid _ := hbb
  clear hbb hb9
  rw [HCl]
  go_wp2_with fail
  refine hK.out _ _ hS9 (fun hHeld => ?_)
  clear hK K hS9
  try simp only [Act.put, List.getElem_toArray, List.getElem_cons_zero, List.getElem_cons_succ, List.setIfInBounds_toArray, List.set_cons_zero, List.set_cons_succ]
  refine wpAnyH_take (i := 13) (v := (.bool false)) rfl (by kernel_rfl) (by kernel_rfl) (by kernel_rfl) (fun _ _ _ h => h) (Or.inl ⟨by kernel_rfl, fun w' hSw => (by go_simp)⟩) (by assumption) ?_
  try simp only [Act.put, List.getElem_toArray, List.getElem_cons_zero, List.getElem_cons_succ, List.setIfInBounds_toArray, List.set_cons_zero, List.set_cons_succ]
  refine wpAnyH_take (i := 14) (v := (.bool false)) rfl (by kernel_rfl) (by kernel_rfl) (by kernel_rfl) (fun _ _ _ h => h) (Or.inl ⟨by kernel_rfl, fun w' hSw => (by go_simp)⟩) (by assumption) ?_
  try simp only [Act.put, List.getElem_toArray, List.getElem_cons_zero, List.getElem_cons_succ, List.setIfInBounds_toArray, List.set_cons_zero, List.set_cons_succ]
  refine wpAnyH_done (by kernel_rfl) ?_ _
  clear hHeld HRV
  go_upto_region 5 with fail
  by_cases hd : d ≤ 0
  · have hdd : decide (d ≤ 0) = true := by simpa using hd
    have HE : Hid (wiB 19 (Dc.nv n 0) = true) := by
      show _ = _
      have h2 := HW.out.2
      rw [HCh] at h2
      have h1 := HW.out.1
      rw [HCl] at h1
      have h3 := HCN.out
      unfold wiB
      simp
      omega
    clear hd
    have HB1 : Hid _ := HB.out
    clear HB
    have HB : Hid (Below U.heap.size U w9.drew) := HB1.out.trans ((Dc.Below.drewN' 1).mono HB1.out.size)
    refine wp_region_held_drew (S := fun W => W.heap[w.heap.size]? = some (.cells #[.bool n.1, .slice va n.2.1.length vc, .int .i64 n.2.2] 43 (0, 0)) ∧ W.heap[w.heap.size + 1]? = some (.cells loT 9 (0, 0)) ∧ W.heap[w.heap.size + 1 + 1]? = some (.cells hiT 9 (0, 0))) (by kernel_rfl) (HK.out _ HB.out) (fun hHeld => ?_)
    refine wpAnyH_take (i := 0) (v := (.slice (some ⟨w.heap.size + 1 + 1, 0, none⟩) 24 24)) rfl (by kernel_rfl) (by kernel_rfl) (by kernel_rfl) (fun _ _ _ h => h) (Or.inl ⟨by kernel_rfl, fun w' hSw => (by go_simp)⟩) (by assumption) ?_
    try simp only [Act.put, List.getElem_toArray, List.getElem_cons_zero, List.getElem_cons_succ, List.setIfInBounds_toArray, List.set_cons_zero, List.set_cons_succ]
    refine wpAnyH_take (i := 1) (v := (.int .i64 19)) rfl (by kernel_rfl) (by kernel_rfl) (by kernel_rfl) (fun _ _ _ h => h) (Or.inl ⟨by kernel_rfl, fun w' hSw => (by go_simp)⟩) (by assumption) ?_
    try simp only [Act.put, List.getElem_toArray, List.getElem_cons_zero, List.getElem_cons_succ, List.setIfInBounds_toArray, List.set_cons_zero, List.set_cons_succ]
    refine wpAnyH_take (i := 2) (v := (.pointer (some ⟨w.heap.size + 1 + 1, 19, none⟩))) rfl (by kernel_rfl) (by kernel_rfl) (by kernel_rfl) (fun _ _ _ h => h) (Or.inl ⟨by kernel_rfl, fun w' hSw => (by go_simp)⟩) (by assumption) ?_
    try simp only [Act.put, List.getElem_toArray, List.getElem_cons_zero, List.getElem_cons_succ, List.setIfInBounds_toArray, List.set_cons_zero, List.set_cons_succ]
    refine wpAnyH_take (i := 3) (v := (.string ⟨#[49, 50, 55]⟩)) rfl (by kernel_rfl) (by kernel_rfl) (by kernel_rfl) (fun _ _ _ h => h) (Or.inl ⟨by kernel_rfl, fun w' hSw => (by have hc : w'.cell? ⟨w.heap.size + 1 + 1, 19, none⟩ = some (.string ⟨#[49, 50, 55]⟩) := row_cell hSw.2.2; go_simp)⟩) (by assumption) ?_
    try simp only [Act.put, List.getElem_toArray, List.getElem_cons_zero, List.getElem_cons_succ, List.setIfInBounds_toArray, List.set_cons_zero, List.set_cons_succ]
    refine wpAnyH_take (i := 4) (v := (.bool false)) rfl (by kernel_rfl) (by kernel_rfl) (by kernel_rfl) (fun _ _ _ h => h) (Or.inl ⟨by kernel_rfl, fun w' hSw => (by go_simp)⟩) (by assumption) ?_
    try simp only [Act.put, List.getElem_toArray, List.getElem_cons_zero, List.getElem_cons_succ, List.setIfInBounds_toArray, List.set_cons_zero, List.set_cons_succ]
    refine wpAnyH_take (i := 5) (v := (.bool false)) rfl (by kernel_rfl) (by kernel_rfl) (by kernel_rfl) (fun _ _ _ h => h) (Or.inl ⟨by kernel_rfl, fun w' hSw => (by go_simp)⟩) (by assumption) ?_
    try simp only [Act.put, List.getElem_toArray, List.getElem_cons_zero, List.getElem_cons_succ, List.setIfInBounds_toArray, List.set_cons_zero, List.set_cons_succ]
    refine wpAnyH_take (i := 6) (v := (.agg #[.bool n.1, .slice va n.2.1.length vc, .int .i64 n.2.2])) rfl (by kernel_rfl) (by kernel_rfl) (by kernel_rfl) (fun _ _ _ h => h) (yieldsIf_load_mid (by kernel_rfl) 43 _ rfl w.heap.size 0 rfl [.bool n.1, .slice va n.2.1.length vc, .int .i64 n.2.2] _ (fun W hW => rng3 hW.1) Tryz.underlying43 rfl (by kernel_rfl)) (by assumption) ?_
    try simp only [Act.put, List.getElem_toArray, List.getElem_cons_zero, List.getElem_cons_succ, List.setIfInBounds_toArray, List.set_cons_zero, List.set_cons_succ]
    refine wpAnyH_take (i := 7) (v := (.slice (some ⟨w.heap.size + 1 + 1, 0, none⟩) 24 24)) rfl (by kernel_rfl) (by kernel_rfl) (by kernel_rfl) (fun _ _ _ h => h) (Or.inl ⟨by kernel_rfl, fun w' hSw => (by go_simp)⟩) (by assumption) ?_
    try simp only [Act.put, List.getElem_toArray, List.getElem_cons_zero, List.getElem_cons_succ, List.setIfInBounds_toArray, List.set_cons_zero, List.set_cons_succ]
    refine wpAnyH_take (i := 8) (v := (.int .i64 19)) rfl (by kernel_rfl) (by kernel_rfl) (by kernel_rfl) (fun _ _ _ h => h) (Or.inl ⟨by kernel_rfl, fun w' hSw => (by go_simp)⟩) (by assumption) ?_
    try simp only [Act.put, List.getElem_toArray, List.getElem_cons_zero, List.getElem_cons_succ, List.setIfInBounds_toArray, List.set_cons_zero, List.set_cons_succ]
    refine wpAnyH_take (i := 9) (v := (.pointer (some ⟨w.heap.size + 1 + 1, 19, none⟩))) rfl (by kernel_rfl) (by kernel_rfl) (by kernel_rfl) (fun _ _ _ h => h) (Or.inl ⟨by kernel_rfl, fun w' hSw => (by go_simp)⟩) (by assumption) ?_
    try simp only [Act.put, List.getElem_toArray, List.getElem_cons_zero, List.getElem_cons_succ, List.setIfInBounds_toArray, List.set_cons_zero, List.set_cons_succ]
    refine wpAnyH_take (i := 10) (v := (.string ⟨#[49, 50, 55]⟩)) rfl (by kernel_rfl) (by kernel_rfl) (by kernel_rfl) (fun _ _ _ h => h) (Or.inl ⟨by kernel_rfl, fun w' hSw => (by have hc : w'.cell? ⟨w.heap.size + 1 + 1, 19, none⟩ = some (.string ⟨#[49, 50, 55]⟩) := row_cell hSw.2.2; go_simp)⟩) (by assumption) ?_
    try simp only [Act.put, List.getElem_toArray, List.getElem_cons_zero, List.getElem_cons_succ, List.setIfInBounds_toArray, List.set_cons_zero, List.set_cons_succ]
    refine wpAnyH_ready (rs := [11]) (by kernel_rfl) (by simp) ?_
    refine AllReadyH.cons rfl (fun K hK => ?_) AllReadyH.nil
    go_simp
    refine Calls.mono (bound_r (n := (false, [1, 2, 7], 0)) ⟨#[49, 50, 55]⟩ _ (by decide) pb10) ?_
    rintro e w9 ⟨rv, rfl, hb9, hrv⟩
    have hbb := HB.out.trans (hb9.mono HB.out.size)
    have hS9 := HK.out _ hbb
    clear HB hHeld
    have HB : Hid _ := hbb
    have HRV : Hid _ := hrv
    clear hbb hb9 hrv
    go_wp2_with fail
    refine hK.out _ _ hS9 (fun hHeld => ?_)
    clear hK K hS9
    try simp only [Act.put, List.getElem_toArray, List.getElem_cons_zero, List.getElem_cons_succ, List.setIfInBounds_toArray, List.set_cons_zero, List.set_cons_succ]
    refine wpAnyH_ready (rs := [12]) (by kernel_rfl) (by simp) ?_
    refine AllReadyH.cons rfl (fun K hK => ?_) AllReadyH.nil
    go_simp
    have hcr := Dc.cmp_r (HN.out _ HB.out) HRV.out
    refine Calls.mono hcr ?_
    clear hcr
    rintro e w9 ⟨rfl, hb9⟩
    have hbb := HB.out.trans (hb9.mono HB.out.size)
    have hS9 := HK.out _ hbb
    clear HB hHeld
    have HB : Hid _ := hbb
    clear hbb hb9
    rw [HCh]
    go_wp2_with fail
    refine hK.out _ _ hS9 (fun hHeld => ?_)
    clear hK K hS9
    try simp only [Act.put, List.getElem_toArray, List.getElem_cons_zero, List.getElem_cons_succ, List.setIfInBounds_toArray, List.set_cons_zero, List.set_cons_succ]
    refine wpAnyH_take (i := 13) (v := (.bool true)) rfl (by kernel_rfl) (by kernel_rfl) (by kernel_rfl) (fun _ _ _ h => h) (Or.inl ⟨by kernel_rfl, fun w' hSw => (by go_simp)⟩) (by assumption) ?_
    try simp only [Act.put, List.getElem_toArray, List.getElem_cons_zero, List.getElem_cons_succ, List.setIfInBounds_toArray, List.set_cons_zero, List.set_cons_succ]
    refine wpAnyH_take (i := 14) (v := (.bool true)) rfl (by kernel_rfl) (by kernel_rfl) (by kernel_rfl) (fun _ _ _ h => h) (Or.inl ⟨by kernel_rfl, fun w' hSw => (by go_simp)⟩) (by assumption) ?_
    try simp only [Act.put, List.getElem_toArray, List.getElem_cons_zero, List.getElem_cons_succ, List.setIfInBounds_toArray, List.set_cons_zero, List.set_cons_succ]
    refine wpAnyH_take (i := 15) (v := (.bool true)) rfl (by kernel_rfl) (by kernel_rfl) (by kernel_rfl) (fun _ _ _ h => h) (Or.inl ⟨by kernel_rfl, fun w' hSw => (by go_simp)⟩) (by assumption) ?_
    try simp only [Act.put, List.getElem_toArray, List.getElem_cons_zero, List.getElem_cons_succ, List.setIfInBounds_toArray, List.set_cons_zero, List.set_cons_succ]
    refine wpAnyH_done (by kernel_rfl) ?_ _
    go_wp2_with fail
    go_ret
    exact ⟨ret_b HE.out.symm, HU.out.trans (HB.out.mono HU.out.size)⟩
  · have hdd : decide (d ≤ 0) = false := by simpa using hd
    have HE : Hid (wiB 19 (Dc.nv n 0) = false) := by
      show _ = _
      have h2 := HW.out.2
      rw [HCh] at h2
      have h1 := HW.out.1
      rw [HCl] at h1
      have h3 := HCN.out
      unfold wiB
      simp
      omega
    clear hd
    have HB1 : Hid _ := HB.out
    clear HB
    have HB : Hid (Below U.heap.size U w9.drew) := HB1.out.trans ((Dc.Below.drewN' 1).mono HB1.out.size)
    refine wp_region_held_drew (S := fun W => W.heap[w.heap.size]? = some (.cells #[.bool n.1, .slice va n.2.1.length vc, .int .i64 n.2.2] 43 (0, 0)) ∧ W.heap[w.heap.size + 1]? = some (.cells loT 9 (0, 0)) ∧ W.heap[w.heap.size + 1 + 1]? = some (.cells hiT 9 (0, 0))) (by kernel_rfl) (HK.out _ HB.out) (fun hHeld => ?_)
    refine wpAnyH_take (i := 0) (v := (.slice (some ⟨w.heap.size + 1 + 1, 0, none⟩) 24 24)) rfl (by kernel_rfl) (by kernel_rfl) (by kernel_rfl) (fun _ _ _ h => h) (Or.inl ⟨by kernel_rfl, fun w' hSw => (by go_simp)⟩) (by assumption) ?_
    try simp only [Act.put, List.getElem_toArray, List.getElem_cons_zero, List.getElem_cons_succ, List.setIfInBounds_toArray, List.set_cons_zero, List.set_cons_succ]
    refine wpAnyH_take (i := 1) (v := (.int .i64 19)) rfl (by kernel_rfl) (by kernel_rfl) (by kernel_rfl) (fun _ _ _ h => h) (Or.inl ⟨by kernel_rfl, fun w' hSw => (by go_simp)⟩) (by assumption) ?_
    try simp only [Act.put, List.getElem_toArray, List.getElem_cons_zero, List.getElem_cons_succ, List.setIfInBounds_toArray, List.set_cons_zero, List.set_cons_succ]
    refine wpAnyH_take (i := 2) (v := (.pointer (some ⟨w.heap.size + 1 + 1, 19, none⟩))) rfl (by kernel_rfl) (by kernel_rfl) (by kernel_rfl) (fun _ _ _ h => h) (Or.inl ⟨by kernel_rfl, fun w' hSw => (by go_simp)⟩) (by assumption) ?_
    try simp only [Act.put, List.getElem_toArray, List.getElem_cons_zero, List.getElem_cons_succ, List.setIfInBounds_toArray, List.set_cons_zero, List.set_cons_succ]
    refine wpAnyH_take (i := 3) (v := (.string ⟨#[49, 50, 55]⟩)) rfl (by kernel_rfl) (by kernel_rfl) (by kernel_rfl) (fun _ _ _ h => h) (Or.inl ⟨by kernel_rfl, fun w' hSw => (by have hc : w'.cell? ⟨w.heap.size + 1 + 1, 19, none⟩ = some (.string ⟨#[49, 50, 55]⟩) := row_cell hSw.2.2; go_simp)⟩) (by assumption) ?_
    try simp only [Act.put, List.getElem_toArray, List.getElem_cons_zero, List.getElem_cons_succ, List.setIfInBounds_toArray, List.set_cons_zero, List.set_cons_succ]
    refine wpAnyH_take (i := 4) (v := (.bool false)) rfl (by kernel_rfl) (by kernel_rfl) (by kernel_rfl) (fun _ _ _ h => h) (Or.inl ⟨by kernel_rfl, fun w' hSw => (by go_simp)⟩) (by assumption) ?_
    try simp only [Act.put, List.getElem_toArray, List.getElem_cons_zero, List.getElem_cons_succ, List.setIfInBounds_toArray, List.set_cons_zero, List.set_cons_succ]
    refine wpAnyH_take (i := 5) (v := (.bool false)) rfl (by kernel_rfl) (by kernel_rfl) (by kernel_rfl) (fun _ _ _ h => h) (Or.inl ⟨by kernel_rfl, fun w' hSw => (by go_simp)⟩) (by assumption) ?_
    try simp only [Act.put, List.getElem_toArray, List.getElem_cons_zero, List.getElem_cons_succ, List.setIfInBounds_toArray, List.set_cons_zero, List.set_cons_succ]
    refine wpAnyH_take (i := 6) (v := (.agg #[.bool n.1, .slice va n.2.1.length vc, .int .i64 n.2.2])) rfl (by kernel_rfl) (by kernel_rfl) (by kernel_rfl) (fun _ _ _ h => h) (yieldsIf_load_mid (by kernel_rfl) 43 _ rfl w.heap.size 0 rfl [.bool n.1, .slice va n.2.1.length vc, .int .i64 n.2.2] _ (fun W hW => rng3 hW.1) Tryz.underlying43 rfl (by kernel_rfl)) (by assumption) ?_
    try simp only [Act.put, List.getElem_toArray, List.getElem_cons_zero, List.getElem_cons_succ, List.setIfInBounds_toArray, List.set_cons_zero, List.set_cons_succ]
    refine wpAnyH_take (i := 7) (v := (.slice (some ⟨w.heap.size + 1 + 1, 0, none⟩) 24 24)) rfl (by kernel_rfl) (by kernel_rfl) (by kernel_rfl) (fun _ _ _ h => h) (Or.inl ⟨by kernel_rfl, fun w' hSw => (by go_simp)⟩) (by assumption) ?_
    try simp only [Act.put, List.getElem_toArray, List.getElem_cons_zero, List.getElem_cons_succ, List.setIfInBounds_toArray, List.set_cons_zero, List.set_cons_succ]
    refine wpAnyH_take (i := 8) (v := (.int .i64 19)) rfl (by kernel_rfl) (by kernel_rfl) (by kernel_rfl) (fun _ _ _ h => h) (Or.inl ⟨by kernel_rfl, fun w' hSw => (by go_simp)⟩) (by assumption) ?_
    try simp only [Act.put, List.getElem_toArray, List.getElem_cons_zero, List.getElem_cons_succ, List.setIfInBounds_toArray, List.set_cons_zero, List.set_cons_succ]
    refine wpAnyH_take (i := 9) (v := (.pointer (some ⟨w.heap.size + 1 + 1, 19, none⟩))) rfl (by kernel_rfl) (by kernel_rfl) (by kernel_rfl) (fun _ _ _ h => h) (Or.inl ⟨by kernel_rfl, fun w' hSw => (by go_simp)⟩) (by assumption) ?_
    try simp only [Act.put, List.getElem_toArray, List.getElem_cons_zero, List.getElem_cons_succ, List.setIfInBounds_toArray, List.set_cons_zero, List.set_cons_succ]
    refine wpAnyH_take (i := 10) (v := (.string ⟨#[49, 50, 55]⟩)) rfl (by kernel_rfl) (by kernel_rfl) (by kernel_rfl) (fun _ _ _ h => h) (Or.inl ⟨by kernel_rfl, fun w' hSw => (by have hc : w'.cell? ⟨w.heap.size + 1 + 1, 19, none⟩ = some (.string ⟨#[49, 50, 55]⟩) := row_cell hSw.2.2; go_simp)⟩) (by assumption) ?_
    try simp only [Act.put, List.getElem_toArray, List.getElem_cons_zero, List.getElem_cons_succ, List.setIfInBounds_toArray, List.set_cons_zero, List.set_cons_succ]
    refine wpAnyH_ready (rs := [11]) (by kernel_rfl) (by simp) ?_
    refine AllReadyH.cons rfl (fun K hK => ?_) AllReadyH.nil
    go_simp
    refine Calls.mono (bound_r (n := (false, [1, 2, 7], 0)) ⟨#[49, 50, 55]⟩ _ (by decide) pb10) ?_
    rintro e w9 ⟨rv, rfl, hb9, hrv⟩
    have hbb := HB.out.trans (hb9.mono HB.out.size)
    have hS9 := HK.out _ hbb
    clear HB hHeld
    have HB : Hid _ := hbb
    have HRV : Hid _ := hrv
    clear hbb hb9 hrv
    go_wp2_with fail
    refine hK.out _ _ hS9 (fun hHeld => ?_)
    clear hK K hS9
    try simp only [Act.put, List.getElem_toArray, List.getElem_cons_zero, List.getElem_cons_succ, List.setIfInBounds_toArray, List.set_cons_zero, List.set_cons_succ]
    refine wpAnyH_ready (rs := [12]) (by kernel_rfl) (by simp) ?_
    refine AllReadyH.cons rfl (fun K hK => ?_) AllReadyH.nil
    go_simp
    have hcr := Dc.cmp_r (HN.out _ HB.out) HRV.out
    refine Calls.mono hcr ?_
    clear hcr
    rintro e w9 ⟨rfl, hb9⟩
    have hbb := HB.out.trans (hb9.mono HB.out.size)
    have hS9 := HK.out _ hbb
    clear HB hHeld
    have HB : Hid _ := hbb
    clear hbb hb9
    rw [HCh]
    go_wp2_with fail
    refine hK.out _ _ hS9 (fun hHeld => ?_)
    clear hK K hS9
    try simp only [Act.put, List.getElem_toArray, List.getElem_cons_zero, List.getElem_cons_succ, List.setIfInBounds_toArray, List.set_cons_zero, List.set_cons_succ]
    refine wpAnyH_take (i := 13) (v := (.bool false)) rfl (by kernel_rfl) (by kernel_rfl) (by kernel_rfl) (fun _ _ _ h => h) (Or.inl ⟨by kernel_rfl, fun w' hSw => (by go_simp)⟩) (by assumption) ?_
    try simp only [Act.put, List.getElem_toArray, List.getElem_cons_zero, List.getElem_cons_succ, List.setIfInBounds_toArray, List.set_cons_zero, List.set_cons_succ]
    refine wpAnyH_take (i := 14) (v := (.bool false)) rfl (by kernel_rfl) (by kernel_rfl) (by kernel_rfl) (fun _ _ _ h => h) (Or.inl ⟨by kernel_rfl, fun w' hSw => (by go_simp)⟩) (by assumption) ?_
    try simp only [Act.put, List.getElem_toArray, List.getElem_cons_zero, List.getElem_cons_succ, List.setIfInBounds_toArray, List.set_cons_zero, List.set_cons_succ]
    refine wpAnyH_take (i := 15) (v := (.bool false)) rfl (by kernel_rfl) (by kernel_rfl) (by kernel_rfl) (fun _ _ _ h => h) (Or.inl ⟨by kernel_rfl, fun w' hSw => (by go_simp)⟩) (by assumption) ?_
    try simp only [Act.put, List.getElem_toArray, List.getElem_cons_zero, List.getElem_cons_succ, List.setIfInBounds_toArray, List.set_cons_zero, List.set_cons_succ]
    refine wpAnyH_done (by kernel_rfl) ?_ _
    go_wp2_with fail
    go_ret
    exact ⟨ret_b HE.out.symm, HU.out.trans (HB.out.mono HU.out.size)⟩
set_option maxRecDepth 100000 in
set_option maxHeartbeats 6400000 in
theorem within_20 {w : World} {v : Value} {n : Dc.Nm} (hn : Dc.NmR w v n) (h0 : n.2.2 = 0) : Calls Tryz.prog 43 #[.int .i64 20, Dc.nmV n.1 v n.2.2] w fun e w' => e = .returned (.bool (wiB 20 (Dc.nv n 0))) ∧ Below w.heap.size w w' := by
  have hl := (cmp_whole hn.cn h0 pb0c rfl).1
  rw [pb0v] at hl
  have hh := (cmp_whole hn.cn h0 pb11c rfl).2
  rw [pb11v] at hh
  have HW : Hid ((Dc.cmpS n (false, [0], 0) < 0 ↔ Dc.nv n 0 < 0) ∧ (Dc.cmpS n (false, [1, 8, 4, 4, 6, 7, 4, 4, 0, 7, 3, 7, 0, 9, 5, 5, 1, 6, 1, 5], 0) ≤ 0 ↔ Dc.nv n 0 ≤ 18446744073709551615)) := ⟨hl, hh⟩
  clear hl hh
  obtain ⟨va, vc, rfl, _⟩ := hn.bt.form
  have hx := M.nw_heap w (.cells #[.bool n.1, .slice va n.2.1.length vc, .int .i64 n.2.2] 43)
  have hb1 : Below w.heap.size w (((w.alloc (.cells #[.bool n.1, .slice va n.2.1.length vc, .int .i64 n.2.2] 43)).alloc (.cells loT 9)).alloc (.cells hiT 9)) := bel3 w _ _ _
  have hS := blocks3 w (.cells #[.bool n.1, .slice va n.2.1.length vc, .int .i64 n.2.2] 43) (.cells loT 9) (.cells hiT 9)
  obtain ⟨U, hU⟩ : ∃ U, ((w.alloc (.cells #[.bool n.1, .slice va n.2.1.length vc, .int .i64 n.2.2] 43)).alloc (.cells loT 9)).alloc (.cells hiT 9) = U := ⟨_, rfl⟩
  rw [hU] at hb1 hS
  have HN : Hid _ := fun W (hW : Below U.heap.size U W) => hn.below (hb1.trans (hW.mono hb1.size))
  have HK : Hid (∀ W, Below U.heap.size U W → _ ∧ _ ∧ _) := fun W hW => And.intro ((hW.block _ (Dc.lt_of hS.1)).trans hS.1) (And.intro ((hW.block _ (Dc.lt_of hS.2.1)).trans hS.2.1) ((hW.block _ (Dc.lt_of hS.2.2)).trans hS.2.2))
  have HU : Hid _ := hb1
  clear hx hb1 hS hn h0
  obtain ⟨c, HCl⟩ : ∃ c, Dc.cmpS n (false, [0], 0) = c := ⟨_, rfl⟩
  obtain ⟨d, HCh⟩ : ∃ d, Dc.cmpS n (false, [1, 8, 4, 4, 6, 7, 4, 4, 0, 7, 3, 7, 0, 9, 5, 5, 1, 6, 1, 5], 0) = d := ⟨_, rfl⟩
  go_enter Tryz.func43, Tryz.ntmps43
  go_upto_region 3 with fail
  try rw [show ((w.alloc (.cells #[.bool n.1, .slice va n.2.1.length vc, .int .i64 n.2.2] 43)).alloc (.cells #[.string ⟨#[]⟩, .string ⟨#[]⟩, .string ⟨#[]⟩, .string ⟨#[]⟩, .string ⟨#[]⟩, .string ⟨#[]⟩, .string ⟨#[]⟩, .string ⟨#[]⟩, .string ⟨#[]⟩, .string ⟨#[]⟩, .string ⟨#[]⟩, .string ⟨#[]⟩, .string ⟨#[]⟩, .string ⟨#[]⟩, .string ⟨#[48]⟩, .string ⟨#[49]⟩, .string ⟨#[45, 57, 50, 50, 51, 51, 55, 50, 48, 51, 54, 56, 53, 52, 55, 55, 53, 56, 48, 56]⟩, .string ⟨#[45, 50, 49, 52, 55, 52, 56, 51, 54, 52, 56]⟩, .string ⟨#[45, 51, 50, 55, 54, 56]⟩, .string ⟨#[45, 49, 50, 56]⟩, .string ⟨#[48]⟩, .string ⟨#[48]⟩, .string ⟨#[48]⟩, .string ⟨#[48]⟩] 9)).alloc (.cells #[.string ⟨#[]⟩, .string ⟨#[]⟩, .string ⟨#[]⟩, .string ⟨#[]⟩, .string ⟨#[]⟩, .string ⟨#[]⟩, .string ⟨#[]⟩, .string ⟨#[]⟩, .string ⟨#[]⟩, .string ⟨#[]⟩, .string ⟨#[]⟩, .string ⟨#[]⟩, .string ⟨#[48]⟩, .string ⟨#[45, 49]⟩, .string ⟨#[]⟩, .string ⟨#[]⟩, .string ⟨#[57, 50, 50, 51, 51, 55, 50, 48, 51, 54, 56, 53, 52, 55, 55, 53, 56, 48, 55]⟩, .string ⟨#[50, 49, 52, 55, 52, 56, 51, 54, 52, 55]⟩, .string ⟨#[51, 50, 55, 54, 55]⟩, .string ⟨#[49, 50, 55]⟩, .string ⟨#[49, 56, 52, 52, 54, 55, 52, 52, 48, 55, 51, 55, 48, 57, 53, 53, 49, 54, 49, 53]⟩, .string ⟨#[52, 50, 57, 52, 57, 54, 55, 50, 57, 53]⟩, .string ⟨#[54, 53, 53, 51, 53]⟩, .string ⟨#[50, 53, 53]⟩] 9) = U from hU]
  clear hU
  have HB : Hid (Below U.heap.size U U.drew) := Dc.Below.drewN' 1
  by_cases hc : c < 0
  · have hcd : decide (c < 0) = true := by simpa using hc
    have HE : Hid (wiB 20 (Dc.nv n 0) = false) := by
      show _ = _
      have := HW.out.1
      rw [HCl] at this
      unfold wiB
      simp
      omega
    clear hc
    refine wp_region_held_drew (S := fun W => W.heap[w.heap.size]? = some (.cells #[.bool n.1, .slice va n.2.1.length vc, .int .i64 n.2.2] 43 (0, 0)) ∧ W.heap[w.heap.size + 1]? = some (.cells loT 9 (0, 0)) ∧ W.heap[w.heap.size + 1 + 1]? = some (.cells hiT 9 (0, 0))) (by kernel_rfl) (HK.out _ HB.out) (fun hHeld => ?_)
    refine wpAnyH_take (i := 0) (v := (.slice (some ⟨w.heap.size + 1, 0, none⟩) 24 24)) rfl (by kernel_rfl) (by kernel_rfl) (by kernel_rfl) (fun _ _ _ h => h) (Or.inl ⟨by kernel_rfl, fun w' hSw => (by go_simp)⟩) (by assumption) ?_
    try simp only [Act.put, List.getElem_toArray, List.getElem_cons_zero, List.getElem_cons_succ, List.setIfInBounds_toArray, List.set_cons_zero, List.set_cons_succ]
    refine wpAnyH_take (i := 1) (v := (.int .i64 20)) rfl (by kernel_rfl) (by kernel_rfl) (by kernel_rfl) (fun _ _ _ h => h) (Or.inl ⟨by kernel_rfl, fun w' hSw => (by go_simp)⟩) (by assumption) ?_
    try simp only [Act.put, List.getElem_toArray, List.getElem_cons_zero, List.getElem_cons_succ, List.setIfInBounds_toArray, List.set_cons_zero, List.set_cons_succ]
    refine wpAnyH_take (i := 2) (v := (.pointer (some ⟨w.heap.size + 1, 20, none⟩))) rfl (by kernel_rfl) (by kernel_rfl) (by kernel_rfl) (fun _ _ _ h => h) (Or.inl ⟨by kernel_rfl, fun w' hSw => (by go_simp)⟩) (by assumption) ?_
    try simp only [Act.put, List.getElem_toArray, List.getElem_cons_zero, List.getElem_cons_succ, List.setIfInBounds_toArray, List.set_cons_zero, List.set_cons_succ]
    refine wpAnyH_take (i := 3) (v := (.string ⟨#[48]⟩)) rfl (by kernel_rfl) (by kernel_rfl) (by kernel_rfl) (fun _ _ _ h => h) (Or.inl ⟨by kernel_rfl, fun w' hSw => (by have hc : w'.cell? ⟨w.heap.size + 1, 20, none⟩ = some (.string ⟨#[48]⟩) := row_cell hSw.2.1; go_simp)⟩) (by assumption) ?_
    try simp only [Act.put, List.getElem_toArray, List.getElem_cons_zero, List.getElem_cons_succ, List.setIfInBounds_toArray, List.set_cons_zero, List.set_cons_succ]
    refine wpAnyH_take (i := 4) (v := (.bool true)) rfl (by kernel_rfl) (by kernel_rfl) (by kernel_rfl) (fun _ _ _ h => h) (Or.inl ⟨by kernel_rfl, fun w' hSw => (by go_simp)⟩) (by assumption) ?_
    try simp only [Act.put, List.getElem_toArray, List.getElem_cons_zero, List.getElem_cons_succ, List.setIfInBounds_toArray, List.set_cons_zero, List.set_cons_succ]
    refine wpAnyH_take (i := 5) (v := (.bool true)) rfl (by kernel_rfl) (by kernel_rfl) (by kernel_rfl) (fun _ _ _ h => h) (Or.inl ⟨by kernel_rfl, fun w' hSw => (by go_simp)⟩) (by assumption) ?_
    try simp only [Act.put, List.getElem_toArray, List.getElem_cons_zero, List.getElem_cons_succ, List.setIfInBounds_toArray, List.set_cons_zero, List.set_cons_succ]
    refine wpAnyH_take (i := 6) (v := (.agg #[.bool n.1, .slice va n.2.1.length vc, .int .i64 n.2.2])) rfl (by kernel_rfl) (by kernel_rfl) (by kernel_rfl) (fun _ _ _ h => h) (yieldsIf_load_mid (by kernel_rfl) 43 _ rfl w.heap.size 0 rfl [.bool n.1, .slice va n.2.1.length vc, .int .i64 n.2.2] _ (fun W hW => rng3 hW.1) Tryz.underlying43 rfl (by kernel_rfl)) (by assumption) ?_
    try simp only [Act.put, List.getElem_toArray, List.getElem_cons_zero, List.getElem_cons_succ, List.setIfInBounds_toArray, List.set_cons_zero, List.set_cons_succ]
    refine wpAnyH_take (i := 7) (v := (.slice (some ⟨w.heap.size + 1, 0, none⟩) 24 24)) rfl (by kernel_rfl) (by kernel_rfl) (by kernel_rfl) (fun _ _ _ h => h) (Or.inl ⟨by kernel_rfl, fun w' hSw => (by go_simp)⟩) (by assumption) ?_
    try simp only [Act.put, List.getElem_toArray, List.getElem_cons_zero, List.getElem_cons_succ, List.setIfInBounds_toArray, List.set_cons_zero, List.set_cons_succ]
    refine wpAnyH_take (i := 8) (v := (.int .i64 20)) rfl (by kernel_rfl) (by kernel_rfl) (by kernel_rfl) (fun _ _ _ h => h) (Or.inl ⟨by kernel_rfl, fun w' hSw => (by go_simp)⟩) (by assumption) ?_
    try simp only [Act.put, List.getElem_toArray, List.getElem_cons_zero, List.getElem_cons_succ, List.setIfInBounds_toArray, List.set_cons_zero, List.set_cons_succ]
    refine wpAnyH_take (i := 9) (v := (.pointer (some ⟨w.heap.size + 1, 20, none⟩))) rfl (by kernel_rfl) (by kernel_rfl) (by kernel_rfl) (fun _ _ _ h => h) (Or.inl ⟨by kernel_rfl, fun w' hSw => (by go_simp)⟩) (by assumption) ?_
    try simp only [Act.put, List.getElem_toArray, List.getElem_cons_zero, List.getElem_cons_succ, List.setIfInBounds_toArray, List.set_cons_zero, List.set_cons_succ]
    refine wpAnyH_take (i := 10) (v := (.string ⟨#[48]⟩)) rfl (by kernel_rfl) (by kernel_rfl) (by kernel_rfl) (fun _ _ _ h => h) (Or.inl ⟨by kernel_rfl, fun w' hSw => (by have hc : w'.cell? ⟨w.heap.size + 1, 20, none⟩ = some (.string ⟨#[48]⟩) := row_cell hSw.2.1; go_simp)⟩) (by assumption) ?_
    try simp only [Act.put, List.getElem_toArray, List.getElem_cons_zero, List.getElem_cons_succ, List.setIfInBounds_toArray, List.set_cons_zero, List.set_cons_succ]
    refine wpAnyH_ready (rs := [11]) (by kernel_rfl) (by simp) ?_
    refine AllReadyH.cons rfl (fun K hK => ?_) AllReadyH.nil
    go_simp
    refine Calls.mono (bound_r (n := (false, [0], 0)) ⟨#[48]⟩ _ (by decide) pb0) ?_
    rintro e w9 ⟨rv, rfl, hb9, hrv⟩
    have hbb := HB.out.trans (hb9.mono HB.out.size)
    have hS9 := HK.out _ hbb
    clear HB hHeld
    have HB : Hid _ := hbb
    have HRV : Hid _ := hrv
    clear hbb hb9 hrv
    go_wp2_with fail
    refine hK.out _ _ hS9 (fun hHeld => ?_)
    clear hK K hS9
    try simp only [Act.put, List.getElem_toArray, List.getElem_cons_zero, List.getElem_cons_succ, List.setIfInBounds_toArray, List.set_cons_zero, List.set_cons_succ]
    refine wpAnyH_ready (rs := [12]) (by kernel_rfl) (by simp) ?_
    refine AllReadyH.cons rfl (fun K hK => ?_) AllReadyH.nil
    go_simp
    have hcr := Dc.cmp_r (HN.out _ HB.out) HRV.out
    refine Calls.mono hcr ?_
    clear hcr
    rintro e w9 ⟨rfl, hb9⟩
    have hbb := HB.out.trans (hb9.mono HB.out.size)
    have hS9 := HK.out _ hbb
    clear HB hHeld
    have HB : Hid _ := hbb
    clear hbb hb9
    rw [HCl]
    go_wp2_with fail
    refine hK.out _ _ hS9 (fun hHeld => ?_)
    clear hK K hS9
    try simp only [Act.put, List.getElem_toArray, List.getElem_cons_zero, List.getElem_cons_succ, List.setIfInBounds_toArray, List.set_cons_zero, List.set_cons_succ]
    refine wpAnyH_take (i := 13) (v := (.bool true)) rfl (by kernel_rfl) (by kernel_rfl) (by kernel_rfl) (fun _ _ _ h => h) (Or.inl ⟨by kernel_rfl, fun w' hSw => (by go_simp)⟩) (by assumption) ?_
    try simp only [Act.put, List.getElem_toArray, List.getElem_cons_zero, List.getElem_cons_succ, List.setIfInBounds_toArray, List.set_cons_zero, List.set_cons_succ]
    refine wpAnyH_take (i := 14) (v := (.bool true)) rfl (by kernel_rfl) (by kernel_rfl) (by kernel_rfl) (fun _ _ _ h => h) (Or.inl ⟨by kernel_rfl, fun w' hSw => (by go_simp)⟩) (by assumption) ?_
    try simp only [Act.put, List.getElem_toArray, List.getElem_cons_zero, List.getElem_cons_succ, List.setIfInBounds_toArray, List.set_cons_zero, List.set_cons_succ]
    refine wpAnyH_done (by kernel_rfl) ?_ _
    clear hHeld
    go_wp2_with fail
    go_ret
    exact ⟨ret_b HE.out.symm, HU.out.trans (HB.out.mono HU.out.size)⟩
  have hcd : decide (c < 0) = false := by simpa using hc
  have HCN : Hid (¬ c < 0) := hc
  clear hc
  refine wp_region_held_drew (S := fun W => W.heap[w.heap.size]? = some (.cells #[.bool n.1, .slice va n.2.1.length vc, .int .i64 n.2.2] 43 (0, 0)) ∧ W.heap[w.heap.size + 1]? = some (.cells loT 9 (0, 0)) ∧ W.heap[w.heap.size + 1 + 1]? = some (.cells hiT 9 (0, 0))) (by kernel_rfl) (HK.out _ HB.out) (fun hHeld => ?_)
  refine wpAnyH_take (i := 0) (v := (.slice (some ⟨w.heap.size + 1, 0, none⟩) 24 24)) rfl (by kernel_rfl) (by kernel_rfl) (by kernel_rfl) (fun _ _ _ h => h) (Or.inl ⟨by kernel_rfl, fun w' hSw => (by go_simp)⟩) (by assumption) ?_
  try simp only [Act.put, List.getElem_toArray, List.getElem_cons_zero, List.getElem_cons_succ, List.setIfInBounds_toArray, List.set_cons_zero, List.set_cons_succ]
  refine wpAnyH_take (i := 1) (v := (.int .i64 20)) rfl (by kernel_rfl) (by kernel_rfl) (by kernel_rfl) (fun _ _ _ h => h) (Or.inl ⟨by kernel_rfl, fun w' hSw => (by go_simp)⟩) (by assumption) ?_
  try simp only [Act.put, List.getElem_toArray, List.getElem_cons_zero, List.getElem_cons_succ, List.setIfInBounds_toArray, List.set_cons_zero, List.set_cons_succ]
  refine wpAnyH_take (i := 2) (v := (.pointer (some ⟨w.heap.size + 1, 20, none⟩))) rfl (by kernel_rfl) (by kernel_rfl) (by kernel_rfl) (fun _ _ _ h => h) (Or.inl ⟨by kernel_rfl, fun w' hSw => (by go_simp)⟩) (by assumption) ?_
  try simp only [Act.put, List.getElem_toArray, List.getElem_cons_zero, List.getElem_cons_succ, List.setIfInBounds_toArray, List.set_cons_zero, List.set_cons_succ]
  refine wpAnyH_take (i := 3) (v := (.string ⟨#[48]⟩)) rfl (by kernel_rfl) (by kernel_rfl) (by kernel_rfl) (fun _ _ _ h => h) (Or.inl ⟨by kernel_rfl, fun w' hSw => (by have hc : w'.cell? ⟨w.heap.size + 1, 20, none⟩ = some (.string ⟨#[48]⟩) := row_cell hSw.2.1; go_simp)⟩) (by assumption) ?_
  try simp only [Act.put, List.getElem_toArray, List.getElem_cons_zero, List.getElem_cons_succ, List.setIfInBounds_toArray, List.set_cons_zero, List.set_cons_succ]
  refine wpAnyH_take (i := 4) (v := (.bool true)) rfl (by kernel_rfl) (by kernel_rfl) (by kernel_rfl) (fun _ _ _ h => h) (Or.inl ⟨by kernel_rfl, fun w' hSw => (by go_simp)⟩) (by assumption) ?_
  try simp only [Act.put, List.getElem_toArray, List.getElem_cons_zero, List.getElem_cons_succ, List.setIfInBounds_toArray, List.set_cons_zero, List.set_cons_succ]
  refine wpAnyH_take (i := 5) (v := (.bool true)) rfl (by kernel_rfl) (by kernel_rfl) (by kernel_rfl) (fun _ _ _ h => h) (Or.inl ⟨by kernel_rfl, fun w' hSw => (by go_simp)⟩) (by assumption) ?_
  try simp only [Act.put, List.getElem_toArray, List.getElem_cons_zero, List.getElem_cons_succ, List.setIfInBounds_toArray, List.set_cons_zero, List.set_cons_succ]
  refine wpAnyH_take (i := 6) (v := (.agg #[.bool n.1, .slice va n.2.1.length vc, .int .i64 n.2.2])) rfl (by kernel_rfl) (by kernel_rfl) (by kernel_rfl) (fun _ _ _ h => h) (yieldsIf_load_mid (by kernel_rfl) 43 _ rfl w.heap.size 0 rfl [.bool n.1, .slice va n.2.1.length vc, .int .i64 n.2.2] _ (fun W hW => rng3 hW.1) Tryz.underlying43 rfl (by kernel_rfl)) (by assumption) ?_
  try simp only [Act.put, List.getElem_toArray, List.getElem_cons_zero, List.getElem_cons_succ, List.setIfInBounds_toArray, List.set_cons_zero, List.set_cons_succ]
  refine wpAnyH_take (i := 7) (v := (.slice (some ⟨w.heap.size + 1, 0, none⟩) 24 24)) rfl (by kernel_rfl) (by kernel_rfl) (by kernel_rfl) (fun _ _ _ h => h) (Or.inl ⟨by kernel_rfl, fun w' hSw => (by go_simp)⟩) (by assumption) ?_
  try simp only [Act.put, List.getElem_toArray, List.getElem_cons_zero, List.getElem_cons_succ, List.setIfInBounds_toArray, List.set_cons_zero, List.set_cons_succ]
  refine wpAnyH_take (i := 8) (v := (.int .i64 20)) rfl (by kernel_rfl) (by kernel_rfl) (by kernel_rfl) (fun _ _ _ h => h) (Or.inl ⟨by kernel_rfl, fun w' hSw => (by go_simp)⟩) (by assumption) ?_
  try simp only [Act.put, List.getElem_toArray, List.getElem_cons_zero, List.getElem_cons_succ, List.setIfInBounds_toArray, List.set_cons_zero, List.set_cons_succ]
  refine wpAnyH_take (i := 9) (v := (.pointer (some ⟨w.heap.size + 1, 20, none⟩))) rfl (by kernel_rfl) (by kernel_rfl) (by kernel_rfl) (fun _ _ _ h => h) (Or.inl ⟨by kernel_rfl, fun w' hSw => (by go_simp)⟩) (by assumption) ?_
  try simp only [Act.put, List.getElem_toArray, List.getElem_cons_zero, List.getElem_cons_succ, List.setIfInBounds_toArray, List.set_cons_zero, List.set_cons_succ]
  refine wpAnyH_take (i := 10) (v := (.string ⟨#[48]⟩)) rfl (by kernel_rfl) (by kernel_rfl) (by kernel_rfl) (fun _ _ _ h => h) (Or.inl ⟨by kernel_rfl, fun w' hSw => (by have hc : w'.cell? ⟨w.heap.size + 1, 20, none⟩ = some (.string ⟨#[48]⟩) := row_cell hSw.2.1; go_simp)⟩) (by assumption) ?_
  try simp only [Act.put, List.getElem_toArray, List.getElem_cons_zero, List.getElem_cons_succ, List.setIfInBounds_toArray, List.set_cons_zero, List.set_cons_succ]
  refine wpAnyH_ready (rs := [11]) (by kernel_rfl) (by simp) ?_
  refine AllReadyH.cons rfl (fun K hK => ?_) AllReadyH.nil
  go_simp
  refine Calls.mono (bound_r (n := (false, [0], 0)) ⟨#[48]⟩ _ (by decide) pb0) ?_
  rintro e w9 ⟨rv, rfl, hb9, hrv⟩
  have hbb := HB.out.trans (hb9.mono HB.out.size)
  have hS9 := HK.out _ hbb
  clear HB hHeld
  have HB : Hid _ := hbb
  have HRV : Hid _ := hrv
  clear hbb hb9 hrv
  go_wp2_with fail
  refine hK.out _ _ hS9 (fun hHeld => ?_)
  clear hK K hS9
  try simp only [Act.put, List.getElem_toArray, List.getElem_cons_zero, List.getElem_cons_succ, List.setIfInBounds_toArray, List.set_cons_zero, List.set_cons_succ]
  refine wpAnyH_ready (rs := [12]) (by kernel_rfl) (by simp) ?_
  refine AllReadyH.cons rfl (fun K hK => ?_) AllReadyH.nil
  go_simp
  have hcr := Dc.cmp_r (HN.out _ HB.out) HRV.out
  refine Calls.mono hcr ?_
  clear hcr
  rintro e w9 ⟨rfl, hb9⟩
  have hbb := HB.out.trans (hb9.mono HB.out.size)
  have hS9 := HK.out _ hbb
  clear HB hHeld
  have HB : Hid _ := hbb
  clear hbb hb9
  rw [HCl]
  go_wp2_with fail
  refine hK.out _ _ hS9 (fun hHeld => ?_)
  clear hK K hS9
  try simp only [Act.put, List.getElem_toArray, List.getElem_cons_zero, List.getElem_cons_succ, List.setIfInBounds_toArray, List.set_cons_zero, List.set_cons_succ]
  refine wpAnyH_take (i := 13) (v := (.bool false)) rfl (by kernel_rfl) (by kernel_rfl) (by kernel_rfl) (fun _ _ _ h => h) (Or.inl ⟨by kernel_rfl, fun w' hSw => (by go_simp)⟩) (by assumption) ?_
  try simp only [Act.put, List.getElem_toArray, List.getElem_cons_zero, List.getElem_cons_succ, List.setIfInBounds_toArray, List.set_cons_zero, List.set_cons_succ]
  refine wpAnyH_take (i := 14) (v := (.bool false)) rfl (by kernel_rfl) (by kernel_rfl) (by kernel_rfl) (fun _ _ _ h => h) (Or.inl ⟨by kernel_rfl, fun w' hSw => (by go_simp)⟩) (by assumption) ?_
  try simp only [Act.put, List.getElem_toArray, List.getElem_cons_zero, List.getElem_cons_succ, List.setIfInBounds_toArray, List.set_cons_zero, List.set_cons_succ]
  refine wpAnyH_done (by kernel_rfl) ?_ _
  clear hHeld HRV
  go_upto_region 5 with fail
  by_cases hd : d ≤ 0
  · have hdd : decide (d ≤ 0) = true := by simpa using hd
    have HE : Hid (wiB 20 (Dc.nv n 0) = true) := by
      show _ = _
      have h2 := HW.out.2
      rw [HCh] at h2
      have h1 := HW.out.1
      rw [HCl] at h1
      have h3 := HCN.out
      unfold wiB
      simp
      omega
    clear hd
    have HB1 : Hid _ := HB.out
    clear HB
    have HB : Hid (Below U.heap.size U w9.drew) := HB1.out.trans ((Dc.Below.drewN' 1).mono HB1.out.size)
    refine wp_region_held_drew (S := fun W => W.heap[w.heap.size]? = some (.cells #[.bool n.1, .slice va n.2.1.length vc, .int .i64 n.2.2] 43 (0, 0)) ∧ W.heap[w.heap.size + 1]? = some (.cells loT 9 (0, 0)) ∧ W.heap[w.heap.size + 1 + 1]? = some (.cells hiT 9 (0, 0))) (by kernel_rfl) (HK.out _ HB.out) (fun hHeld => ?_)
    refine wpAnyH_take (i := 0) (v := (.slice (some ⟨w.heap.size + 1 + 1, 0, none⟩) 24 24)) rfl (by kernel_rfl) (by kernel_rfl) (by kernel_rfl) (fun _ _ _ h => h) (Or.inl ⟨by kernel_rfl, fun w' hSw => (by go_simp)⟩) (by assumption) ?_
    try simp only [Act.put, List.getElem_toArray, List.getElem_cons_zero, List.getElem_cons_succ, List.setIfInBounds_toArray, List.set_cons_zero, List.set_cons_succ]
    refine wpAnyH_take (i := 1) (v := (.int .i64 20)) rfl (by kernel_rfl) (by kernel_rfl) (by kernel_rfl) (fun _ _ _ h => h) (Or.inl ⟨by kernel_rfl, fun w' hSw => (by go_simp)⟩) (by assumption) ?_
    try simp only [Act.put, List.getElem_toArray, List.getElem_cons_zero, List.getElem_cons_succ, List.setIfInBounds_toArray, List.set_cons_zero, List.set_cons_succ]
    refine wpAnyH_take (i := 2) (v := (.pointer (some ⟨w.heap.size + 1 + 1, 20, none⟩))) rfl (by kernel_rfl) (by kernel_rfl) (by kernel_rfl) (fun _ _ _ h => h) (Or.inl ⟨by kernel_rfl, fun w' hSw => (by go_simp)⟩) (by assumption) ?_
    try simp only [Act.put, List.getElem_toArray, List.getElem_cons_zero, List.getElem_cons_succ, List.setIfInBounds_toArray, List.set_cons_zero, List.set_cons_succ]
    refine wpAnyH_take (i := 3) (v := (.string ⟨#[49, 56, 52, 52, 54, 55, 52, 52, 48, 55, 51, 55, 48, 57, 53, 53, 49, 54, 49, 53]⟩)) rfl (by kernel_rfl) (by kernel_rfl) (by kernel_rfl) (fun _ _ _ h => h) (Or.inl ⟨by kernel_rfl, fun w' hSw => (by have hc : w'.cell? ⟨w.heap.size + 1 + 1, 20, none⟩ = some (.string ⟨#[49, 56, 52, 52, 54, 55, 52, 52, 48, 55, 51, 55, 48, 57, 53, 53, 49, 54, 49, 53]⟩) := row_cell hSw.2.2; go_simp)⟩) (by assumption) ?_
    try simp only [Act.put, List.getElem_toArray, List.getElem_cons_zero, List.getElem_cons_succ, List.setIfInBounds_toArray, List.set_cons_zero, List.set_cons_succ]
    refine wpAnyH_take (i := 4) (v := (.bool false)) rfl (by kernel_rfl) (by kernel_rfl) (by kernel_rfl) (fun _ _ _ h => h) (Or.inl ⟨by kernel_rfl, fun w' hSw => (by go_simp)⟩) (by assumption) ?_
    try simp only [Act.put, List.getElem_toArray, List.getElem_cons_zero, List.getElem_cons_succ, List.setIfInBounds_toArray, List.set_cons_zero, List.set_cons_succ]
    refine wpAnyH_take (i := 5) (v := (.bool false)) rfl (by kernel_rfl) (by kernel_rfl) (by kernel_rfl) (fun _ _ _ h => h) (Or.inl ⟨by kernel_rfl, fun w' hSw => (by go_simp)⟩) (by assumption) ?_
    try simp only [Act.put, List.getElem_toArray, List.getElem_cons_zero, List.getElem_cons_succ, List.setIfInBounds_toArray, List.set_cons_zero, List.set_cons_succ]
    refine wpAnyH_take (i := 6) (v := (.agg #[.bool n.1, .slice va n.2.1.length vc, .int .i64 n.2.2])) rfl (by kernel_rfl) (by kernel_rfl) (by kernel_rfl) (fun _ _ _ h => h) (yieldsIf_load_mid (by kernel_rfl) 43 _ rfl w.heap.size 0 rfl [.bool n.1, .slice va n.2.1.length vc, .int .i64 n.2.2] _ (fun W hW => rng3 hW.1) Tryz.underlying43 rfl (by kernel_rfl)) (by assumption) ?_
    try simp only [Act.put, List.getElem_toArray, List.getElem_cons_zero, List.getElem_cons_succ, List.setIfInBounds_toArray, List.set_cons_zero, List.set_cons_succ]
    refine wpAnyH_take (i := 7) (v := (.slice (some ⟨w.heap.size + 1 + 1, 0, none⟩) 24 24)) rfl (by kernel_rfl) (by kernel_rfl) (by kernel_rfl) (fun _ _ _ h => h) (Or.inl ⟨by kernel_rfl, fun w' hSw => (by go_simp)⟩) (by assumption) ?_
    try simp only [Act.put, List.getElem_toArray, List.getElem_cons_zero, List.getElem_cons_succ, List.setIfInBounds_toArray, List.set_cons_zero, List.set_cons_succ]
    refine wpAnyH_take (i := 8) (v := (.int .i64 20)) rfl (by kernel_rfl) (by kernel_rfl) (by kernel_rfl) (fun _ _ _ h => h) (Or.inl ⟨by kernel_rfl, fun w' hSw => (by go_simp)⟩) (by assumption) ?_
    try simp only [Act.put, List.getElem_toArray, List.getElem_cons_zero, List.getElem_cons_succ, List.setIfInBounds_toArray, List.set_cons_zero, List.set_cons_succ]
    refine wpAnyH_take (i := 9) (v := (.pointer (some ⟨w.heap.size + 1 + 1, 20, none⟩))) rfl (by kernel_rfl) (by kernel_rfl) (by kernel_rfl) (fun _ _ _ h => h) (Or.inl ⟨by kernel_rfl, fun w' hSw => (by go_simp)⟩) (by assumption) ?_
    try simp only [Act.put, List.getElem_toArray, List.getElem_cons_zero, List.getElem_cons_succ, List.setIfInBounds_toArray, List.set_cons_zero, List.set_cons_succ]
    refine wpAnyH_take (i := 10) (v := (.string ⟨#[49, 56, 52, 52, 54, 55, 52, 52, 48, 55, 51, 55, 48, 57, 53, 53, 49, 54, 49, 53]⟩)) rfl (by kernel_rfl) (by kernel_rfl) (by kernel_rfl) (fun _ _ _ h => h) (Or.inl ⟨by kernel_rfl, fun w' hSw => (by have hc : w'.cell? ⟨w.heap.size + 1 + 1, 20, none⟩ = some (.string ⟨#[49, 56, 52, 52, 54, 55, 52, 52, 48, 55, 51, 55, 48, 57, 53, 53, 49, 54, 49, 53]⟩) := row_cell hSw.2.2; go_simp)⟩) (by assumption) ?_
    try simp only [Act.put, List.getElem_toArray, List.getElem_cons_zero, List.getElem_cons_succ, List.setIfInBounds_toArray, List.set_cons_zero, List.set_cons_succ]
    refine wpAnyH_ready (rs := [11]) (by kernel_rfl) (by simp) ?_
    refine AllReadyH.cons rfl (fun K hK => ?_) AllReadyH.nil
    go_simp
    refine Calls.mono (bound_r (n := (false, [1, 8, 4, 4, 6, 7, 4, 4, 0, 7, 3, 7, 0, 9, 5, 5, 1, 6, 1, 5], 0)) ⟨#[49, 56, 52, 52, 54, 55, 52, 52, 48, 55, 51, 55, 48, 57, 53, 53, 49, 54, 49, 53]⟩ _ (by decide) pb11) ?_
    rintro e w9 ⟨rv, rfl, hb9, hrv⟩
    have hbb := HB.out.trans (hb9.mono HB.out.size)
    have hS9 := HK.out _ hbb
    clear HB hHeld
    have HB : Hid _ := hbb
    have HRV : Hid _ := hrv
    clear hbb hb9 hrv
    go_wp2_with fail
    refine hK.out _ _ hS9 (fun hHeld => ?_)
    clear hK K hS9
    try simp only [Act.put, List.getElem_toArray, List.getElem_cons_zero, List.getElem_cons_succ, List.setIfInBounds_toArray, List.set_cons_zero, List.set_cons_succ]
    refine wpAnyH_ready (rs := [12]) (by kernel_rfl) (by simp) ?_
    refine AllReadyH.cons rfl (fun K hK => ?_) AllReadyH.nil
    go_simp
    have hcr := Dc.cmp_r (HN.out _ HB.out) HRV.out
    refine Calls.mono hcr ?_
    clear hcr
    rintro e w9 ⟨rfl, hb9⟩
    have hbb := HB.out.trans (hb9.mono HB.out.size)
    have hS9 := HK.out _ hbb
    clear HB hHeld
    have HB : Hid _ := hbb
    clear hbb hb9
    rw [HCh]
    go_wp2_with fail
    refine hK.out _ _ hS9 (fun hHeld => ?_)
    clear hK K hS9
    try simp only [Act.put, List.getElem_toArray, List.getElem_cons_zero, List.getElem_cons_succ, List.setIfInBounds_toArray, List.set_cons_zero, List.set_cons_succ]
    refine wpAnyH_take (i := 13) (v := (.bool true)) rfl (by kernel_rfl) (by kernel_rfl) (by kernel_rfl) (fun _ _ _ h => h) (Or.inl ⟨by kernel_rfl, fun w' hSw => (by go_simp)⟩) (by assumption) ?_
    try simp only [Act.put, List.getElem_toArray, List.getElem_cons_zero, List.getElem_cons_succ, List.setIfInBounds_toArray, List.set_cons_zero, List.set_cons_succ]
    refine wpAnyH_take (i := 14) (v := (.bool true)) rfl (by kernel_rfl) (by kernel_rfl) (by kernel_rfl) (fun _ _ _ h => h) (Or.inl ⟨by kernel_rfl, fun w' hSw => (by go_simp)⟩) (by assumption) ?_
    try simp only [Act.put, List.getElem_toArray, List.getElem_cons_zero, List.getElem_cons_succ, List.setIfInBounds_toArray, List.set_cons_zero, List.set_cons_succ]
    refine wpAnyH_take (i := 15) (v := (.bool true)) rfl (by kernel_rfl) (by kernel_rfl) (by kernel_rfl) (fun _ _ _ h => h) (Or.inl ⟨by kernel_rfl, fun w' hSw => (by go_simp)⟩) (by assumption) ?_
    try simp only [Act.put, List.getElem_toArray, List.getElem_cons_zero, List.getElem_cons_succ, List.setIfInBounds_toArray, List.set_cons_zero, List.set_cons_succ]
    refine wpAnyH_done (by kernel_rfl) ?_ _
    go_wp2_with fail
    go_ret
    exact ⟨ret_b HE.out.symm, HU.out.trans (HB.out.mono HU.out.size)⟩
  · have hdd : decide (d ≤ 0) = false := by simpa using hd
    have HE : Hid (wiB 20 (Dc.nv n 0) = false) := by
      show _ = _
      have h2 := HW.out.2
      rw [HCh] at h2
      have h1 := HW.out.1
      rw [HCl] at h1
      have h3 := HCN.out
      unfold wiB
      simp
      omega
    clear hd
    have HB1 : Hid _ := HB.out
    clear HB
    have HB : Hid (Below U.heap.size U w9.drew) := HB1.out.trans ((Dc.Below.drewN' 1).mono HB1.out.size)
    refine wp_region_held_drew (S := fun W => W.heap[w.heap.size]? = some (.cells #[.bool n.1, .slice va n.2.1.length vc, .int .i64 n.2.2] 43 (0, 0)) ∧ W.heap[w.heap.size + 1]? = some (.cells loT 9 (0, 0)) ∧ W.heap[w.heap.size + 1 + 1]? = some (.cells hiT 9 (0, 0))) (by kernel_rfl) (HK.out _ HB.out) (fun hHeld => ?_)
    refine wpAnyH_take (i := 0) (v := (.slice (some ⟨w.heap.size + 1 + 1, 0, none⟩) 24 24)) rfl (by kernel_rfl) (by kernel_rfl) (by kernel_rfl) (fun _ _ _ h => h) (Or.inl ⟨by kernel_rfl, fun w' hSw => (by go_simp)⟩) (by assumption) ?_
    try simp only [Act.put, List.getElem_toArray, List.getElem_cons_zero, List.getElem_cons_succ, List.setIfInBounds_toArray, List.set_cons_zero, List.set_cons_succ]
    refine wpAnyH_take (i := 1) (v := (.int .i64 20)) rfl (by kernel_rfl) (by kernel_rfl) (by kernel_rfl) (fun _ _ _ h => h) (Or.inl ⟨by kernel_rfl, fun w' hSw => (by go_simp)⟩) (by assumption) ?_
    try simp only [Act.put, List.getElem_toArray, List.getElem_cons_zero, List.getElem_cons_succ, List.setIfInBounds_toArray, List.set_cons_zero, List.set_cons_succ]
    refine wpAnyH_take (i := 2) (v := (.pointer (some ⟨w.heap.size + 1 + 1, 20, none⟩))) rfl (by kernel_rfl) (by kernel_rfl) (by kernel_rfl) (fun _ _ _ h => h) (Or.inl ⟨by kernel_rfl, fun w' hSw => (by go_simp)⟩) (by assumption) ?_
    try simp only [Act.put, List.getElem_toArray, List.getElem_cons_zero, List.getElem_cons_succ, List.setIfInBounds_toArray, List.set_cons_zero, List.set_cons_succ]
    refine wpAnyH_take (i := 3) (v := (.string ⟨#[49, 56, 52, 52, 54, 55, 52, 52, 48, 55, 51, 55, 48, 57, 53, 53, 49, 54, 49, 53]⟩)) rfl (by kernel_rfl) (by kernel_rfl) (by kernel_rfl) (fun _ _ _ h => h) (Or.inl ⟨by kernel_rfl, fun w' hSw => (by have hc : w'.cell? ⟨w.heap.size + 1 + 1, 20, none⟩ = some (.string ⟨#[49, 56, 52, 52, 54, 55, 52, 52, 48, 55, 51, 55, 48, 57, 53, 53, 49, 54, 49, 53]⟩) := row_cell hSw.2.2; go_simp)⟩) (by assumption) ?_
    try simp only [Act.put, List.getElem_toArray, List.getElem_cons_zero, List.getElem_cons_succ, List.setIfInBounds_toArray, List.set_cons_zero, List.set_cons_succ]
    refine wpAnyH_take (i := 4) (v := (.bool false)) rfl (by kernel_rfl) (by kernel_rfl) (by kernel_rfl) (fun _ _ _ h => h) (Or.inl ⟨by kernel_rfl, fun w' hSw => (by go_simp)⟩) (by assumption) ?_
    try simp only [Act.put, List.getElem_toArray, List.getElem_cons_zero, List.getElem_cons_succ, List.setIfInBounds_toArray, List.set_cons_zero, List.set_cons_succ]
    refine wpAnyH_take (i := 5) (v := (.bool false)) rfl (by kernel_rfl) (by kernel_rfl) (by kernel_rfl) (fun _ _ _ h => h) (Or.inl ⟨by kernel_rfl, fun w' hSw => (by go_simp)⟩) (by assumption) ?_
    try simp only [Act.put, List.getElem_toArray, List.getElem_cons_zero, List.getElem_cons_succ, List.setIfInBounds_toArray, List.set_cons_zero, List.set_cons_succ]
    refine wpAnyH_take (i := 6) (v := (.agg #[.bool n.1, .slice va n.2.1.length vc, .int .i64 n.2.2])) rfl (by kernel_rfl) (by kernel_rfl) (by kernel_rfl) (fun _ _ _ h => h) (yieldsIf_load_mid (by kernel_rfl) 43 _ rfl w.heap.size 0 rfl [.bool n.1, .slice va n.2.1.length vc, .int .i64 n.2.2] _ (fun W hW => rng3 hW.1) Tryz.underlying43 rfl (by kernel_rfl)) (by assumption) ?_
    try simp only [Act.put, List.getElem_toArray, List.getElem_cons_zero, List.getElem_cons_succ, List.setIfInBounds_toArray, List.set_cons_zero, List.set_cons_succ]
    refine wpAnyH_take (i := 7) (v := (.slice (some ⟨w.heap.size + 1 + 1, 0, none⟩) 24 24)) rfl (by kernel_rfl) (by kernel_rfl) (by kernel_rfl) (fun _ _ _ h => h) (Or.inl ⟨by kernel_rfl, fun w' hSw => (by go_simp)⟩) (by assumption) ?_
    try simp only [Act.put, List.getElem_toArray, List.getElem_cons_zero, List.getElem_cons_succ, List.setIfInBounds_toArray, List.set_cons_zero, List.set_cons_succ]
    refine wpAnyH_take (i := 8) (v := (.int .i64 20)) rfl (by kernel_rfl) (by kernel_rfl) (by kernel_rfl) (fun _ _ _ h => h) (Or.inl ⟨by kernel_rfl, fun w' hSw => (by go_simp)⟩) (by assumption) ?_
    try simp only [Act.put, List.getElem_toArray, List.getElem_cons_zero, List.getElem_cons_succ, List.setIfInBounds_toArray, List.set_cons_zero, List.set_cons_succ]
    refine wpAnyH_take (i := 9) (v := (.pointer (some ⟨w.heap.size + 1 + 1, 20, none⟩))) rfl (by kernel_rfl) (by kernel_rfl) (by kernel_rfl) (fun _ _ _ h => h) (Or.inl ⟨by kernel_rfl, fun w' hSw => (by go_simp)⟩) (by assumption) ?_
    try simp only [Act.put, List.getElem_toArray, List.getElem_cons_zero, List.getElem_cons_succ, List.setIfInBounds_toArray, List.set_cons_zero, List.set_cons_succ]
    refine wpAnyH_take (i := 10) (v := (.string ⟨#[49, 56, 52, 52, 54, 55, 52, 52, 48, 55, 51, 55, 48, 57, 53, 53, 49, 54, 49, 53]⟩)) rfl (by kernel_rfl) (by kernel_rfl) (by kernel_rfl) (fun _ _ _ h => h) (Or.inl ⟨by kernel_rfl, fun w' hSw => (by have hc : w'.cell? ⟨w.heap.size + 1 + 1, 20, none⟩ = some (.string ⟨#[49, 56, 52, 52, 54, 55, 52, 52, 48, 55, 51, 55, 48, 57, 53, 53, 49, 54, 49, 53]⟩) := row_cell hSw.2.2; go_simp)⟩) (by assumption) ?_
    try simp only [Act.put, List.getElem_toArray, List.getElem_cons_zero, List.getElem_cons_succ, List.setIfInBounds_toArray, List.set_cons_zero, List.set_cons_succ]
    refine wpAnyH_ready (rs := [11]) (by kernel_rfl) (by simp) ?_
    refine AllReadyH.cons rfl (fun K hK => ?_) AllReadyH.nil
    go_simp
    refine Calls.mono (bound_r (n := (false, [1, 8, 4, 4, 6, 7, 4, 4, 0, 7, 3, 7, 0, 9, 5, 5, 1, 6, 1, 5], 0)) ⟨#[49, 56, 52, 52, 54, 55, 52, 52, 48, 55, 51, 55, 48, 57, 53, 53, 49, 54, 49, 53]⟩ _ (by decide) pb11) ?_
    rintro e w9 ⟨rv, rfl, hb9, hrv⟩
    have hbb := HB.out.trans (hb9.mono HB.out.size)
    have hS9 := HK.out _ hbb
    clear HB hHeld
    have HB : Hid _ := hbb
    have HRV : Hid _ := hrv
    clear hbb hb9 hrv
    go_wp2_with fail
    refine hK.out _ _ hS9 (fun hHeld => ?_)
    clear hK K hS9
    try simp only [Act.put, List.getElem_toArray, List.getElem_cons_zero, List.getElem_cons_succ, List.setIfInBounds_toArray, List.set_cons_zero, List.set_cons_succ]
    refine wpAnyH_ready (rs := [12]) (by kernel_rfl) (by simp) ?_
    refine AllReadyH.cons rfl (fun K hK => ?_) AllReadyH.nil
    go_simp
    have hcr := Dc.cmp_r (HN.out _ HB.out) HRV.out
    refine Calls.mono hcr ?_
    clear hcr
    rintro e w9 ⟨rfl, hb9⟩
    have hbb := HB.out.trans (hb9.mono HB.out.size)
    have hS9 := HK.out _ hbb
    clear HB hHeld
    have HB : Hid _ := hbb
    clear hbb hb9
    rw [HCh]
    go_wp2_with fail
    refine hK.out _ _ hS9 (fun hHeld => ?_)
    clear hK K hS9
    try simp only [Act.put, List.getElem_toArray, List.getElem_cons_zero, List.getElem_cons_succ, List.setIfInBounds_toArray, List.set_cons_zero, List.set_cons_succ]
    refine wpAnyH_take (i := 13) (v := (.bool false)) rfl (by kernel_rfl) (by kernel_rfl) (by kernel_rfl) (fun _ _ _ h => h) (Or.inl ⟨by kernel_rfl, fun w' hSw => (by go_simp)⟩) (by assumption) ?_
    try simp only [Act.put, List.getElem_toArray, List.getElem_cons_zero, List.getElem_cons_succ, List.setIfInBounds_toArray, List.set_cons_zero, List.set_cons_succ]
    refine wpAnyH_take (i := 14) (v := (.bool false)) rfl (by kernel_rfl) (by kernel_rfl) (by kernel_rfl) (fun _ _ _ h => h) (Or.inl ⟨by kernel_rfl, fun w' hSw => (by go_simp)⟩) (by assumption) ?_
    try simp only [Act.put, List.getElem_toArray, List.getElem_cons_zero, List.getElem_cons_succ, List.setIfInBounds_toArray, List.set_cons_zero, List.set_cons_succ]
    refine wpAnyH_take (i := 15) (v := (.bool false)) rfl (by kernel_rfl) (by kernel_rfl) (by kernel_rfl) (fun _ _ _ h => h) (Or.inl ⟨by kernel_rfl, fun w' hSw => (by go_simp)⟩) (by assumption) ?_
    try simp only [Act.put, List.getElem_toArray, List.getElem_cons_zero, List.getElem_cons_succ, List.setIfInBounds_toArray, List.set_cons_zero, List.set_cons_succ]
    refine wpAnyH_done (by kernel_rfl) ?_ _
    go_wp2_with fail
    go_ret
    exact ⟨ret_b HE.out.symm, HU.out.trans (HB.out.mono HU.out.size)⟩
set_option maxRecDepth 100000 in
set_option maxHeartbeats 6400000 in
theorem within_21 {w : World} {v : Value} {n : Dc.Nm} (hn : Dc.NmR w v n) (h0 : n.2.2 = 0) : Calls Tryz.prog 43 #[.int .i64 21, Dc.nmV n.1 v n.2.2] w fun e w' => e = .returned (.bool (wiB 21 (Dc.nv n 0))) ∧ Below w.heap.size w w' := by
  have hl := (cmp_whole hn.cn h0 pb0c rfl).1
  rw [pb0v] at hl
  have hh := (cmp_whole hn.cn h0 pb12c rfl).2
  rw [pb12v] at hh
  have HW : Hid ((Dc.cmpS n (false, [0], 0) < 0 ↔ Dc.nv n 0 < 0) ∧ (Dc.cmpS n (false, [4, 2, 9, 4, 9, 6, 7, 2, 9, 5], 0) ≤ 0 ↔ Dc.nv n 0 ≤ 4294967295)) := ⟨hl, hh⟩
  clear hl hh
  obtain ⟨va, vc, rfl, _⟩ := hn.bt.form
  have hx := M.nw_heap w (.cells #[.bool n.1, .slice va n.2.1.length vc, .int .i64 n.2.2] 43)
  have hb1 : Below w.heap.size w (((w.alloc (.cells #[.bool n.1, .slice va n.2.1.length vc, .int .i64 n.2.2] 43)).alloc (.cells loT 9)).alloc (.cells hiT 9)) := bel3 w _ _ _
  have hS := blocks3 w (.cells #[.bool n.1, .slice va n.2.1.length vc, .int .i64 n.2.2] 43) (.cells loT 9) (.cells hiT 9)
  obtain ⟨U, hU⟩ : ∃ U, ((w.alloc (.cells #[.bool n.1, .slice va n.2.1.length vc, .int .i64 n.2.2] 43)).alloc (.cells loT 9)).alloc (.cells hiT 9) = U := ⟨_, rfl⟩
  rw [hU] at hb1 hS
  have HN : Hid _ := fun W (hW : Below U.heap.size U W) => hn.below (hb1.trans (hW.mono hb1.size))
  have HK : Hid (∀ W, Below U.heap.size U W → _ ∧ _ ∧ _) := fun W hW => And.intro ((hW.block _ (Dc.lt_of hS.1)).trans hS.1) (And.intro ((hW.block _ (Dc.lt_of hS.2.1)).trans hS.2.1) ((hW.block _ (Dc.lt_of hS.2.2)).trans hS.2.2))
  have HU : Hid _ := hb1
  clear hx hb1 hS hn h0
  obtain ⟨c, HCl⟩ : ∃ c, Dc.cmpS n (false, [0], 0) = c := ⟨_, rfl⟩
  obtain ⟨d, HCh⟩ : ∃ d, Dc.cmpS n (false, [4, 2, 9, 4, 9, 6, 7, 2, 9, 5], 0) = d := ⟨_, rfl⟩
  go_enter Tryz.func43, Tryz.ntmps43
  go_upto_region 3 with fail
  try rw [show ((w.alloc (.cells #[.bool n.1, .slice va n.2.1.length vc, .int .i64 n.2.2] 43)).alloc (.cells #[.string ⟨#[]⟩, .string ⟨#[]⟩, .string ⟨#[]⟩, .string ⟨#[]⟩, .string ⟨#[]⟩, .string ⟨#[]⟩, .string ⟨#[]⟩, .string ⟨#[]⟩, .string ⟨#[]⟩, .string ⟨#[]⟩, .string ⟨#[]⟩, .string ⟨#[]⟩, .string ⟨#[]⟩, .string ⟨#[]⟩, .string ⟨#[48]⟩, .string ⟨#[49]⟩, .string ⟨#[45, 57, 50, 50, 51, 51, 55, 50, 48, 51, 54, 56, 53, 52, 55, 55, 53, 56, 48, 56]⟩, .string ⟨#[45, 50, 49, 52, 55, 52, 56, 51, 54, 52, 56]⟩, .string ⟨#[45, 51, 50, 55, 54, 56]⟩, .string ⟨#[45, 49, 50, 56]⟩, .string ⟨#[48]⟩, .string ⟨#[48]⟩, .string ⟨#[48]⟩, .string ⟨#[48]⟩] 9)).alloc (.cells #[.string ⟨#[]⟩, .string ⟨#[]⟩, .string ⟨#[]⟩, .string ⟨#[]⟩, .string ⟨#[]⟩, .string ⟨#[]⟩, .string ⟨#[]⟩, .string ⟨#[]⟩, .string ⟨#[]⟩, .string ⟨#[]⟩, .string ⟨#[]⟩, .string ⟨#[]⟩, .string ⟨#[48]⟩, .string ⟨#[45, 49]⟩, .string ⟨#[]⟩, .string ⟨#[]⟩, .string ⟨#[57, 50, 50, 51, 51, 55, 50, 48, 51, 54, 56, 53, 52, 55, 55, 53, 56, 48, 55]⟩, .string ⟨#[50, 49, 52, 55, 52, 56, 51, 54, 52, 55]⟩, .string ⟨#[51, 50, 55, 54, 55]⟩, .string ⟨#[49, 50, 55]⟩, .string ⟨#[49, 56, 52, 52, 54, 55, 52, 52, 48, 55, 51, 55, 48, 57, 53, 53, 49, 54, 49, 53]⟩, .string ⟨#[52, 50, 57, 52, 57, 54, 55, 50, 57, 53]⟩, .string ⟨#[54, 53, 53, 51, 53]⟩, .string ⟨#[50, 53, 53]⟩] 9) = U from hU]
  clear hU
  have HB : Hid (Below U.heap.size U U.drew) := Dc.Below.drewN' 1
  by_cases hc : c < 0
  · have hcd : decide (c < 0) = true := by simpa using hc
    have HE : Hid (wiB 21 (Dc.nv n 0) = false) := by
      show _ = _
      have := HW.out.1
      rw [HCl] at this
      unfold wiB
      simp
      omega
    clear hc
    refine wp_region_held_drew (S := fun W => W.heap[w.heap.size]? = some (.cells #[.bool n.1, .slice va n.2.1.length vc, .int .i64 n.2.2] 43 (0, 0)) ∧ W.heap[w.heap.size + 1]? = some (.cells loT 9 (0, 0)) ∧ W.heap[w.heap.size + 1 + 1]? = some (.cells hiT 9 (0, 0))) (by kernel_rfl) (HK.out _ HB.out) (fun hHeld => ?_)
    refine wpAnyH_take (i := 0) (v := (.slice (some ⟨w.heap.size + 1, 0, none⟩) 24 24)) rfl (by kernel_rfl) (by kernel_rfl) (by kernel_rfl) (fun _ _ _ h => h) (Or.inl ⟨by kernel_rfl, fun w' hSw => (by go_simp)⟩) (by assumption) ?_
    try simp only [Act.put, List.getElem_toArray, List.getElem_cons_zero, List.getElem_cons_succ, List.setIfInBounds_toArray, List.set_cons_zero, List.set_cons_succ]
    refine wpAnyH_take (i := 1) (v := (.int .i64 21)) rfl (by kernel_rfl) (by kernel_rfl) (by kernel_rfl) (fun _ _ _ h => h) (Or.inl ⟨by kernel_rfl, fun w' hSw => (by go_simp)⟩) (by assumption) ?_
    try simp only [Act.put, List.getElem_toArray, List.getElem_cons_zero, List.getElem_cons_succ, List.setIfInBounds_toArray, List.set_cons_zero, List.set_cons_succ]
    refine wpAnyH_take (i := 2) (v := (.pointer (some ⟨w.heap.size + 1, 21, none⟩))) rfl (by kernel_rfl) (by kernel_rfl) (by kernel_rfl) (fun _ _ _ h => h) (Or.inl ⟨by kernel_rfl, fun w' hSw => (by go_simp)⟩) (by assumption) ?_
    try simp only [Act.put, List.getElem_toArray, List.getElem_cons_zero, List.getElem_cons_succ, List.setIfInBounds_toArray, List.set_cons_zero, List.set_cons_succ]
    refine wpAnyH_take (i := 3) (v := (.string ⟨#[48]⟩)) rfl (by kernel_rfl) (by kernel_rfl) (by kernel_rfl) (fun _ _ _ h => h) (Or.inl ⟨by kernel_rfl, fun w' hSw => (by have hc : w'.cell? ⟨w.heap.size + 1, 21, none⟩ = some (.string ⟨#[48]⟩) := row_cell hSw.2.1; go_simp)⟩) (by assumption) ?_
    try simp only [Act.put, List.getElem_toArray, List.getElem_cons_zero, List.getElem_cons_succ, List.setIfInBounds_toArray, List.set_cons_zero, List.set_cons_succ]
    refine wpAnyH_take (i := 4) (v := (.bool true)) rfl (by kernel_rfl) (by kernel_rfl) (by kernel_rfl) (fun _ _ _ h => h) (Or.inl ⟨by kernel_rfl, fun w' hSw => (by go_simp)⟩) (by assumption) ?_
    try simp only [Act.put, List.getElem_toArray, List.getElem_cons_zero, List.getElem_cons_succ, List.setIfInBounds_toArray, List.set_cons_zero, List.set_cons_succ]
    refine wpAnyH_take (i := 5) (v := (.bool true)) rfl (by kernel_rfl) (by kernel_rfl) (by kernel_rfl) (fun _ _ _ h => h) (Or.inl ⟨by kernel_rfl, fun w' hSw => (by go_simp)⟩) (by assumption) ?_
    try simp only [Act.put, List.getElem_toArray, List.getElem_cons_zero, List.getElem_cons_succ, List.setIfInBounds_toArray, List.set_cons_zero, List.set_cons_succ]
    refine wpAnyH_take (i := 6) (v := (.agg #[.bool n.1, .slice va n.2.1.length vc, .int .i64 n.2.2])) rfl (by kernel_rfl) (by kernel_rfl) (by kernel_rfl) (fun _ _ _ h => h) (yieldsIf_load_mid (by kernel_rfl) 43 _ rfl w.heap.size 0 rfl [.bool n.1, .slice va n.2.1.length vc, .int .i64 n.2.2] _ (fun W hW => rng3 hW.1) Tryz.underlying43 rfl (by kernel_rfl)) (by assumption) ?_
    try simp only [Act.put, List.getElem_toArray, List.getElem_cons_zero, List.getElem_cons_succ, List.setIfInBounds_toArray, List.set_cons_zero, List.set_cons_succ]
    refine wpAnyH_take (i := 7) (v := (.slice (some ⟨w.heap.size + 1, 0, none⟩) 24 24)) rfl (by kernel_rfl) (by kernel_rfl) (by kernel_rfl) (fun _ _ _ h => h) (Or.inl ⟨by kernel_rfl, fun w' hSw => (by go_simp)⟩) (by assumption) ?_
    try simp only [Act.put, List.getElem_toArray, List.getElem_cons_zero, List.getElem_cons_succ, List.setIfInBounds_toArray, List.set_cons_zero, List.set_cons_succ]
    refine wpAnyH_take (i := 8) (v := (.int .i64 21)) rfl (by kernel_rfl) (by kernel_rfl) (by kernel_rfl) (fun _ _ _ h => h) (Or.inl ⟨by kernel_rfl, fun w' hSw => (by go_simp)⟩) (by assumption) ?_
    try simp only [Act.put, List.getElem_toArray, List.getElem_cons_zero, List.getElem_cons_succ, List.setIfInBounds_toArray, List.set_cons_zero, List.set_cons_succ]
    refine wpAnyH_take (i := 9) (v := (.pointer (some ⟨w.heap.size + 1, 21, none⟩))) rfl (by kernel_rfl) (by kernel_rfl) (by kernel_rfl) (fun _ _ _ h => h) (Or.inl ⟨by kernel_rfl, fun w' hSw => (by go_simp)⟩) (by assumption) ?_
    try simp only [Act.put, List.getElem_toArray, List.getElem_cons_zero, List.getElem_cons_succ, List.setIfInBounds_toArray, List.set_cons_zero, List.set_cons_succ]
    refine wpAnyH_take (i := 10) (v := (.string ⟨#[48]⟩)) rfl (by kernel_rfl) (by kernel_rfl) (by kernel_rfl) (fun _ _ _ h => h) (Or.inl ⟨by kernel_rfl, fun w' hSw => (by have hc : w'.cell? ⟨w.heap.size + 1, 21, none⟩ = some (.string ⟨#[48]⟩) := row_cell hSw.2.1; go_simp)⟩) (by assumption) ?_
    try simp only [Act.put, List.getElem_toArray, List.getElem_cons_zero, List.getElem_cons_succ, List.setIfInBounds_toArray, List.set_cons_zero, List.set_cons_succ]
    refine wpAnyH_ready (rs := [11]) (by kernel_rfl) (by simp) ?_
    refine AllReadyH.cons rfl (fun K hK => ?_) AllReadyH.nil
    go_simp
    refine Calls.mono (bound_r (n := (false, [0], 0)) ⟨#[48]⟩ _ (by decide) pb0) ?_
    rintro e w9 ⟨rv, rfl, hb9, hrv⟩
    have hbb := HB.out.trans (hb9.mono HB.out.size)
    have hS9 := HK.out _ hbb
    clear HB hHeld
    have HB : Hid _ := hbb
    have HRV : Hid _ := hrv
    clear hbb hb9 hrv
    go_wp2_with fail
    refine hK.out _ _ hS9 (fun hHeld => ?_)
    clear hK K hS9
    try simp only [Act.put, List.getElem_toArray, List.getElem_cons_zero, List.getElem_cons_succ, List.setIfInBounds_toArray, List.set_cons_zero, List.set_cons_succ]
    refine wpAnyH_ready (rs := [12]) (by kernel_rfl) (by simp) ?_
    refine AllReadyH.cons rfl (fun K hK => ?_) AllReadyH.nil
    go_simp
    have hcr := Dc.cmp_r (HN.out _ HB.out) HRV.out
    refine Calls.mono hcr ?_
    clear hcr
    rintro e w9 ⟨rfl, hb9⟩
    have hbb := HB.out.trans (hb9.mono HB.out.size)
    have hS9 := HK.out _ hbb
    clear HB hHeld
    have HB : Hid _ := hbb
    clear hbb hb9
    rw [HCl]
    go_wp2_with fail
    refine hK.out _ _ hS9 (fun hHeld => ?_)
    clear hK K hS9
    try simp only [Act.put, List.getElem_toArray, List.getElem_cons_zero, List.getElem_cons_succ, List.setIfInBounds_toArray, List.set_cons_zero, List.set_cons_succ]
    refine wpAnyH_take (i := 13) (v := (.bool true)) rfl (by kernel_rfl) (by kernel_rfl) (by kernel_rfl) (fun _ _ _ h => h) (Or.inl ⟨by kernel_rfl, fun w' hSw => (by go_simp)⟩) (by assumption) ?_
    try simp only [Act.put, List.getElem_toArray, List.getElem_cons_zero, List.getElem_cons_succ, List.setIfInBounds_toArray, List.set_cons_zero, List.set_cons_succ]
    refine wpAnyH_take (i := 14) (v := (.bool true)) rfl (by kernel_rfl) (by kernel_rfl) (by kernel_rfl) (fun _ _ _ h => h) (Or.inl ⟨by kernel_rfl, fun w' hSw => (by go_simp)⟩) (by assumption) ?_
    try simp only [Act.put, List.getElem_toArray, List.getElem_cons_zero, List.getElem_cons_succ, List.setIfInBounds_toArray, List.set_cons_zero, List.set_cons_succ]
    refine wpAnyH_done (by kernel_rfl) ?_ _
    clear hHeld
    go_wp2_with fail
    go_ret
    exact ⟨ret_b HE.out.symm, HU.out.trans (HB.out.mono HU.out.size)⟩
  have hcd : decide (c < 0) = false := by simpa using hc
  have HCN : Hid (¬ c < 0) := hc
  clear hc
  refine wp_region_held_drew (S := fun W => W.heap[w.heap.size]? = some (.cells #[.bool n.1, .slice va n.2.1.length vc, .int .i64 n.2.2] 43 (0, 0)) ∧ W.heap[w.heap.size + 1]? = some (.cells loT 9 (0, 0)) ∧ W.heap[w.heap.size + 1 + 1]? = some (.cells hiT 9 (0, 0))) (by kernel_rfl) (HK.out _ HB.out) (fun hHeld => ?_)
  refine wpAnyH_take (i := 0) (v := (.slice (some ⟨w.heap.size + 1, 0, none⟩) 24 24)) rfl (by kernel_rfl) (by kernel_rfl) (by kernel_rfl) (fun _ _ _ h => h) (Or.inl ⟨by kernel_rfl, fun w' hSw => (by go_simp)⟩) (by assumption) ?_
  try simp only [Act.put, List.getElem_toArray, List.getElem_cons_zero, List.getElem_cons_succ, List.setIfInBounds_toArray, List.set_cons_zero, List.set_cons_succ]
  refine wpAnyH_take (i := 1) (v := (.int .i64 21)) rfl (by kernel_rfl) (by kernel_rfl) (by kernel_rfl) (fun _ _ _ h => h) (Or.inl ⟨by kernel_rfl, fun w' hSw => (by go_simp)⟩) (by assumption) ?_
  try simp only [Act.put, List.getElem_toArray, List.getElem_cons_zero, List.getElem_cons_succ, List.setIfInBounds_toArray, List.set_cons_zero, List.set_cons_succ]
  refine wpAnyH_take (i := 2) (v := (.pointer (some ⟨w.heap.size + 1, 21, none⟩))) rfl (by kernel_rfl) (by kernel_rfl) (by kernel_rfl) (fun _ _ _ h => h) (Or.inl ⟨by kernel_rfl, fun w' hSw => (by go_simp)⟩) (by assumption) ?_
  try simp only [Act.put, List.getElem_toArray, List.getElem_cons_zero, List.getElem_cons_succ, List.setIfInBounds_toArray, List.set_cons_zero, List.set_cons_succ]
  refine wpAnyH_take (i := 3) (v := (.string ⟨#[48]⟩)) rfl (by kernel_rfl) (by kernel_rfl) (by kernel_rfl) (fun _ _ _ h => h) (Or.inl ⟨by kernel_rfl, fun w' hSw => (by have hc : w'.cell? ⟨w.heap.size + 1, 21, none⟩ = some (.string ⟨#[48]⟩) := row_cell hSw.2.1; go_simp)⟩) (by assumption) ?_
  try simp only [Act.put, List.getElem_toArray, List.getElem_cons_zero, List.getElem_cons_succ, List.setIfInBounds_toArray, List.set_cons_zero, List.set_cons_succ]
  refine wpAnyH_take (i := 4) (v := (.bool true)) rfl (by kernel_rfl) (by kernel_rfl) (by kernel_rfl) (fun _ _ _ h => h) (Or.inl ⟨by kernel_rfl, fun w' hSw => (by go_simp)⟩) (by assumption) ?_
  try simp only [Act.put, List.getElem_toArray, List.getElem_cons_zero, List.getElem_cons_succ, List.setIfInBounds_toArray, List.set_cons_zero, List.set_cons_succ]
  refine wpAnyH_take (i := 5) (v := (.bool true)) rfl (by kernel_rfl) (by kernel_rfl) (by kernel_rfl) (fun _ _ _ h => h) (Or.inl ⟨by kernel_rfl, fun w' hSw => (by go_simp)⟩) (by assumption) ?_
  try simp only [Act.put, List.getElem_toArray, List.getElem_cons_zero, List.getElem_cons_succ, List.setIfInBounds_toArray, List.set_cons_zero, List.set_cons_succ]
  refine wpAnyH_take (i := 6) (v := (.agg #[.bool n.1, .slice va n.2.1.length vc, .int .i64 n.2.2])) rfl (by kernel_rfl) (by kernel_rfl) (by kernel_rfl) (fun _ _ _ h => h) (yieldsIf_load_mid (by kernel_rfl) 43 _ rfl w.heap.size 0 rfl [.bool n.1, .slice va n.2.1.length vc, .int .i64 n.2.2] _ (fun W hW => rng3 hW.1) Tryz.underlying43 rfl (by kernel_rfl)) (by assumption) ?_
  try simp only [Act.put, List.getElem_toArray, List.getElem_cons_zero, List.getElem_cons_succ, List.setIfInBounds_toArray, List.set_cons_zero, List.set_cons_succ]
  refine wpAnyH_take (i := 7) (v := (.slice (some ⟨w.heap.size + 1, 0, none⟩) 24 24)) rfl (by kernel_rfl) (by kernel_rfl) (by kernel_rfl) (fun _ _ _ h => h) (Or.inl ⟨by kernel_rfl, fun w' hSw => (by go_simp)⟩) (by assumption) ?_
  try simp only [Act.put, List.getElem_toArray, List.getElem_cons_zero, List.getElem_cons_succ, List.setIfInBounds_toArray, List.set_cons_zero, List.set_cons_succ]
  refine wpAnyH_take (i := 8) (v := (.int .i64 21)) rfl (by kernel_rfl) (by kernel_rfl) (by kernel_rfl) (fun _ _ _ h => h) (Or.inl ⟨by kernel_rfl, fun w' hSw => (by go_simp)⟩) (by assumption) ?_
  try simp only [Act.put, List.getElem_toArray, List.getElem_cons_zero, List.getElem_cons_succ, List.setIfInBounds_toArray, List.set_cons_zero, List.set_cons_succ]
  refine wpAnyH_take (i := 9) (v := (.pointer (some ⟨w.heap.size + 1, 21, none⟩))) rfl (by kernel_rfl) (by kernel_rfl) (by kernel_rfl) (fun _ _ _ h => h) (Or.inl ⟨by kernel_rfl, fun w' hSw => (by go_simp)⟩) (by assumption) ?_
  try simp only [Act.put, List.getElem_toArray, List.getElem_cons_zero, List.getElem_cons_succ, List.setIfInBounds_toArray, List.set_cons_zero, List.set_cons_succ]
  refine wpAnyH_take (i := 10) (v := (.string ⟨#[48]⟩)) rfl (by kernel_rfl) (by kernel_rfl) (by kernel_rfl) (fun _ _ _ h => h) (Or.inl ⟨by kernel_rfl, fun w' hSw => (by have hc : w'.cell? ⟨w.heap.size + 1, 21, none⟩ = some (.string ⟨#[48]⟩) := row_cell hSw.2.1; go_simp)⟩) (by assumption) ?_
  try simp only [Act.put, List.getElem_toArray, List.getElem_cons_zero, List.getElem_cons_succ, List.setIfInBounds_toArray, List.set_cons_zero, List.set_cons_succ]
  refine wpAnyH_ready (rs := [11]) (by kernel_rfl) (by simp) ?_
  refine AllReadyH.cons rfl (fun K hK => ?_) AllReadyH.nil
  go_simp
  refine Calls.mono (bound_r (n := (false, [0], 0)) ⟨#[48]⟩ _ (by decide) pb0) ?_
  rintro e w9 ⟨rv, rfl, hb9, hrv⟩
  have hbb := HB.out.trans (hb9.mono HB.out.size)
  have hS9 := HK.out _ hbb
  clear HB hHeld
  have HB : Hid _ := hbb
  have HRV : Hid _ := hrv
  clear hbb hb9 hrv
  go_wp2_with fail
  refine hK.out _ _ hS9 (fun hHeld => ?_)
  clear hK K hS9
  try simp only [Act.put, List.getElem_toArray, List.getElem_cons_zero, List.getElem_cons_succ, List.setIfInBounds_toArray, List.set_cons_zero, List.set_cons_succ]
  refine wpAnyH_ready (rs := [12]) (by kernel_rfl) (by simp) ?_
  refine AllReadyH.cons rfl (fun K hK => ?_) AllReadyH.nil
  go_simp
  have hcr := Dc.cmp_r (HN.out _ HB.out) HRV.out
  refine Calls.mono hcr ?_
  clear hcr
  rintro e w9 ⟨rfl, hb9⟩
  have hbb := HB.out.trans (hb9.mono HB.out.size)
  have hS9 := HK.out _ hbb
  clear HB hHeld
  have HB : Hid _ := hbb
  clear hbb hb9
  rw [HCl]
  go_wp2_with fail
  refine hK.out _ _ hS9 (fun hHeld => ?_)
  clear hK K hS9
  try simp only [Act.put, List.getElem_toArray, List.getElem_cons_zero, List.getElem_cons_succ, List.setIfInBounds_toArray, List.set_cons_zero, List.set_cons_succ]
  refine wpAnyH_take (i := 13) (v := (.bool false)) rfl (by kernel_rfl) (by kernel_rfl) (by kernel_rfl) (fun _ _ _ h => h) (Or.inl ⟨by kernel_rfl, fun w' hSw => (by go_simp)⟩) (by assumption) ?_
  try simp only [Act.put, List.getElem_toArray, List.getElem_cons_zero, List.getElem_cons_succ, List.setIfInBounds_toArray, List.set_cons_zero, List.set_cons_succ]
  refine wpAnyH_take (i := 14) (v := (.bool false)) rfl (by kernel_rfl) (by kernel_rfl) (by kernel_rfl) (fun _ _ _ h => h) (Or.inl ⟨by kernel_rfl, fun w' hSw => (by go_simp)⟩) (by assumption) ?_
  try simp only [Act.put, List.getElem_toArray, List.getElem_cons_zero, List.getElem_cons_succ, List.setIfInBounds_toArray, List.set_cons_zero, List.set_cons_succ]
  refine wpAnyH_done (by kernel_rfl) ?_ _
  clear hHeld HRV
  go_upto_region 5 with fail
  by_cases hd : d ≤ 0
  · have hdd : decide (d ≤ 0) = true := by simpa using hd
    have HE : Hid (wiB 21 (Dc.nv n 0) = true) := by
      show _ = _
      have h2 := HW.out.2
      rw [HCh] at h2
      have h1 := HW.out.1
      rw [HCl] at h1
      have h3 := HCN.out
      unfold wiB
      simp
      omega
    clear hd
    have HB1 : Hid _ := HB.out
    clear HB
    have HB : Hid (Below U.heap.size U w9.drew) := HB1.out.trans ((Dc.Below.drewN' 1).mono HB1.out.size)
    refine wp_region_held_drew (S := fun W => W.heap[w.heap.size]? = some (.cells #[.bool n.1, .slice va n.2.1.length vc, .int .i64 n.2.2] 43 (0, 0)) ∧ W.heap[w.heap.size + 1]? = some (.cells loT 9 (0, 0)) ∧ W.heap[w.heap.size + 1 + 1]? = some (.cells hiT 9 (0, 0))) (by kernel_rfl) (HK.out _ HB.out) (fun hHeld => ?_)
    refine wpAnyH_take (i := 0) (v := (.slice (some ⟨w.heap.size + 1 + 1, 0, none⟩) 24 24)) rfl (by kernel_rfl) (by kernel_rfl) (by kernel_rfl) (fun _ _ _ h => h) (Or.inl ⟨by kernel_rfl, fun w' hSw => (by go_simp)⟩) (by assumption) ?_
    try simp only [Act.put, List.getElem_toArray, List.getElem_cons_zero, List.getElem_cons_succ, List.setIfInBounds_toArray, List.set_cons_zero, List.set_cons_succ]
    refine wpAnyH_take (i := 1) (v := (.int .i64 21)) rfl (by kernel_rfl) (by kernel_rfl) (by kernel_rfl) (fun _ _ _ h => h) (Or.inl ⟨by kernel_rfl, fun w' hSw => (by go_simp)⟩) (by assumption) ?_
    try simp only [Act.put, List.getElem_toArray, List.getElem_cons_zero, List.getElem_cons_succ, List.setIfInBounds_toArray, List.set_cons_zero, List.set_cons_succ]
    refine wpAnyH_take (i := 2) (v := (.pointer (some ⟨w.heap.size + 1 + 1, 21, none⟩))) rfl (by kernel_rfl) (by kernel_rfl) (by kernel_rfl) (fun _ _ _ h => h) (Or.inl ⟨by kernel_rfl, fun w' hSw => (by go_simp)⟩) (by assumption) ?_
    try simp only [Act.put, List.getElem_toArray, List.getElem_cons_zero, List.getElem_cons_succ, List.setIfInBounds_toArray, List.set_cons_zero, List.set_cons_succ]
    refine wpAnyH_take (i := 3) (v := (.string ⟨#[52, 50, 57, 52, 57, 54, 55, 50, 57, 53]⟩)) rfl (by kernel_rfl) (by kernel_rfl) (by kernel_rfl) (fun _ _ _ h => h) (Or.inl ⟨by kernel_rfl, fun w' hSw => (by have hc : w'.cell? ⟨w.heap.size + 1 + 1, 21, none⟩ = some (.string ⟨#[52, 50, 57, 52, 57, 54, 55, 50, 57, 53]⟩) := row_cell hSw.2.2; go_simp)⟩) (by assumption) ?_
    try simp only [Act.put, List.getElem_toArray, List.getElem_cons_zero, List.getElem_cons_succ, List.setIfInBounds_toArray, List.set_cons_zero, List.set_cons_succ]
    refine wpAnyH_take (i := 4) (v := (.bool false)) rfl (by kernel_rfl) (by kernel_rfl) (by kernel_rfl) (fun _ _ _ h => h) (Or.inl ⟨by kernel_rfl, fun w' hSw => (by go_simp)⟩) (by assumption) ?_
    try simp only [Act.put, List.getElem_toArray, List.getElem_cons_zero, List.getElem_cons_succ, List.setIfInBounds_toArray, List.set_cons_zero, List.set_cons_succ]
    refine wpAnyH_take (i := 5) (v := (.bool false)) rfl (by kernel_rfl) (by kernel_rfl) (by kernel_rfl) (fun _ _ _ h => h) (Or.inl ⟨by kernel_rfl, fun w' hSw => (by go_simp)⟩) (by assumption) ?_
    try simp only [Act.put, List.getElem_toArray, List.getElem_cons_zero, List.getElem_cons_succ, List.setIfInBounds_toArray, List.set_cons_zero, List.set_cons_succ]
    refine wpAnyH_take (i := 6) (v := (.agg #[.bool n.1, .slice va n.2.1.length vc, .int .i64 n.2.2])) rfl (by kernel_rfl) (by kernel_rfl) (by kernel_rfl) (fun _ _ _ h => h) (yieldsIf_load_mid (by kernel_rfl) 43 _ rfl w.heap.size 0 rfl [.bool n.1, .slice va n.2.1.length vc, .int .i64 n.2.2] _ (fun W hW => rng3 hW.1) Tryz.underlying43 rfl (by kernel_rfl)) (by assumption) ?_
    try simp only [Act.put, List.getElem_toArray, List.getElem_cons_zero, List.getElem_cons_succ, List.setIfInBounds_toArray, List.set_cons_zero, List.set_cons_succ]
    refine wpAnyH_take (i := 7) (v := (.slice (some ⟨w.heap.size + 1 + 1, 0, none⟩) 24 24)) rfl (by kernel_rfl) (by kernel_rfl) (by kernel_rfl) (fun _ _ _ h => h) (Or.inl ⟨by kernel_rfl, fun w' hSw => (by go_simp)⟩) (by assumption) ?_
    try simp only [Act.put, List.getElem_toArray, List.getElem_cons_zero, List.getElem_cons_succ, List.setIfInBounds_toArray, List.set_cons_zero, List.set_cons_succ]
    refine wpAnyH_take (i := 8) (v := (.int .i64 21)) rfl (by kernel_rfl) (by kernel_rfl) (by kernel_rfl) (fun _ _ _ h => h) (Or.inl ⟨by kernel_rfl, fun w' hSw => (by go_simp)⟩) (by assumption) ?_
    try simp only [Act.put, List.getElem_toArray, List.getElem_cons_zero, List.getElem_cons_succ, List.setIfInBounds_toArray, List.set_cons_zero, List.set_cons_succ]
    refine wpAnyH_take (i := 9) (v := (.pointer (some ⟨w.heap.size + 1 + 1, 21, none⟩))) rfl (by kernel_rfl) (by kernel_rfl) (by kernel_rfl) (fun _ _ _ h => h) (Or.inl ⟨by kernel_rfl, fun w' hSw => (by go_simp)⟩) (by assumption) ?_
    try simp only [Act.put, List.getElem_toArray, List.getElem_cons_zero, List.getElem_cons_succ, List.setIfInBounds_toArray, List.set_cons_zero, List.set_cons_succ]
    refine wpAnyH_take (i := 10) (v := (.string ⟨#[52, 50, 57, 52, 57, 54, 55, 50, 57, 53]⟩)) rfl (by kernel_rfl) (by kernel_rfl) (by kernel_rfl) (fun _ _ _ h => h) (Or.inl ⟨by kernel_rfl, fun w' hSw => (by have hc : w'.cell? ⟨w.heap.size + 1 + 1, 21, none⟩ = some (.string ⟨#[52, 50, 57, 52, 57, 54, 55, 50, 57, 53]⟩) := row_cell hSw.2.2; go_simp)⟩) (by assumption) ?_
    try simp only [Act.put, List.getElem_toArray, List.getElem_cons_zero, List.getElem_cons_succ, List.setIfInBounds_toArray, List.set_cons_zero, List.set_cons_succ]
    refine wpAnyH_ready (rs := [11]) (by kernel_rfl) (by simp) ?_
    refine AllReadyH.cons rfl (fun K hK => ?_) AllReadyH.nil
    go_simp
    refine Calls.mono (bound_r (n := (false, [4, 2, 9, 4, 9, 6, 7, 2, 9, 5], 0)) ⟨#[52, 50, 57, 52, 57, 54, 55, 50, 57, 53]⟩ _ (by decide) pb12) ?_
    rintro e w9 ⟨rv, rfl, hb9, hrv⟩
    have hbb := HB.out.trans (hb9.mono HB.out.size)
    have hS9 := HK.out _ hbb
    clear HB hHeld
    have HB : Hid _ := hbb
    have HRV : Hid _ := hrv
    clear hbb hb9 hrv
    go_wp2_with fail
    refine hK.out _ _ hS9 (fun hHeld => ?_)
    clear hK K hS9
    try simp only [Act.put, List.getElem_toArray, List.getElem_cons_zero, List.getElem_cons_succ, List.setIfInBounds_toArray, List.set_cons_zero, List.set_cons_succ]
    refine wpAnyH_ready (rs := [12]) (by kernel_rfl) (by simp) ?_
    refine AllReadyH.cons rfl (fun K hK => ?_) AllReadyH.nil
    go_simp
    have hcr := Dc.cmp_r (HN.out _ HB.out) HRV.out
    refine Calls.mono hcr ?_
    clear hcr
    rintro e w9 ⟨rfl, hb9⟩
    have hbb := HB.out.trans (hb9.mono HB.out.size)
    have hS9 := HK.out _ hbb
    clear HB hHeld
    have HB : Hid _ := hbb
    clear hbb hb9
    rw [HCh]
    go_wp2_with fail
    refine hK.out _ _ hS9 (fun hHeld => ?_)
    clear hK K hS9
    try simp only [Act.put, List.getElem_toArray, List.getElem_cons_zero, List.getElem_cons_succ, List.setIfInBounds_toArray, List.set_cons_zero, List.set_cons_succ]
    refine wpAnyH_take (i := 13) (v := (.bool true)) rfl (by kernel_rfl) (by kernel_rfl) (by kernel_rfl) (fun _ _ _ h => h) (Or.inl ⟨by kernel_rfl, fun w' hSw => (by go_simp)⟩) (by assumption) ?_
    try simp only [Act.put, List.getElem_toArray, List.getElem_cons_zero, List.getElem_cons_succ, List.setIfInBounds_toArray, List.set_cons_zero, List.set_cons_succ]
    refine wpAnyH_take (i := 14) (v := (.bool true)) rfl (by kernel_rfl) (by kernel_rfl) (by kernel_rfl) (fun _ _ _ h => h) (Or.inl ⟨by kernel_rfl, fun w' hSw => (by go_simp)⟩) (by assumption) ?_
    try simp only [Act.put, List.getElem_toArray, List.getElem_cons_zero, List.getElem_cons_succ, List.setIfInBounds_toArray, List.set_cons_zero, List.set_cons_succ]
    refine wpAnyH_take (i := 15) (v := (.bool true)) rfl (by kernel_rfl) (by kernel_rfl) (by kernel_rfl) (fun _ _ _ h => h) (Or.inl ⟨by kernel_rfl, fun w' hSw => (by go_simp)⟩) (by assumption) ?_
    try simp only [Act.put, List.getElem_toArray, List.getElem_cons_zero, List.getElem_cons_succ, List.setIfInBounds_toArray, List.set_cons_zero, List.set_cons_succ]
    refine wpAnyH_done (by kernel_rfl) ?_ _
    go_wp2_with fail
    go_ret
    exact ⟨ret_b HE.out.symm, HU.out.trans (HB.out.mono HU.out.size)⟩
  · have hdd : decide (d ≤ 0) = false := by simpa using hd
    have HE : Hid (wiB 21 (Dc.nv n 0) = false) := by
      show _ = _
      have h2 := HW.out.2
      rw [HCh] at h2
      have h1 := HW.out.1
      rw [HCl] at h1
      have h3 := HCN.out
      unfold wiB
      simp
      omega
    clear hd
    have HB1 : Hid _ := HB.out
    clear HB
    have HB : Hid (Below U.heap.size U w9.drew) := HB1.out.trans ((Dc.Below.drewN' 1).mono HB1.out.size)
    refine wp_region_held_drew (S := fun W => W.heap[w.heap.size]? = some (.cells #[.bool n.1, .slice va n.2.1.length vc, .int .i64 n.2.2] 43 (0, 0)) ∧ W.heap[w.heap.size + 1]? = some (.cells loT 9 (0, 0)) ∧ W.heap[w.heap.size + 1 + 1]? = some (.cells hiT 9 (0, 0))) (by kernel_rfl) (HK.out _ HB.out) (fun hHeld => ?_)
    refine wpAnyH_take (i := 0) (v := (.slice (some ⟨w.heap.size + 1 + 1, 0, none⟩) 24 24)) rfl (by kernel_rfl) (by kernel_rfl) (by kernel_rfl) (fun _ _ _ h => h) (Or.inl ⟨by kernel_rfl, fun w' hSw => (by go_simp)⟩) (by assumption) ?_
    try simp only [Act.put, List.getElem_toArray, List.getElem_cons_zero, List.getElem_cons_succ, List.setIfInBounds_toArray, List.set_cons_zero, List.set_cons_succ]
    refine wpAnyH_take (i := 1) (v := (.int .i64 21)) rfl (by kernel_rfl) (by kernel_rfl) (by kernel_rfl) (fun _ _ _ h => h) (Or.inl ⟨by kernel_rfl, fun w' hSw => (by go_simp)⟩) (by assumption) ?_
    try simp only [Act.put, List.getElem_toArray, List.getElem_cons_zero, List.getElem_cons_succ, List.setIfInBounds_toArray, List.set_cons_zero, List.set_cons_succ]
    refine wpAnyH_take (i := 2) (v := (.pointer (some ⟨w.heap.size + 1 + 1, 21, none⟩))) rfl (by kernel_rfl) (by kernel_rfl) (by kernel_rfl) (fun _ _ _ h => h) (Or.inl ⟨by kernel_rfl, fun w' hSw => (by go_simp)⟩) (by assumption) ?_
    try simp only [Act.put, List.getElem_toArray, List.getElem_cons_zero, List.getElem_cons_succ, List.setIfInBounds_toArray, List.set_cons_zero, List.set_cons_succ]
    refine wpAnyH_take (i := 3) (v := (.string ⟨#[52, 50, 57, 52, 57, 54, 55, 50, 57, 53]⟩)) rfl (by kernel_rfl) (by kernel_rfl) (by kernel_rfl) (fun _ _ _ h => h) (Or.inl ⟨by kernel_rfl, fun w' hSw => (by have hc : w'.cell? ⟨w.heap.size + 1 + 1, 21, none⟩ = some (.string ⟨#[52, 50, 57, 52, 57, 54, 55, 50, 57, 53]⟩) := row_cell hSw.2.2; go_simp)⟩) (by assumption) ?_
    try simp only [Act.put, List.getElem_toArray, List.getElem_cons_zero, List.getElem_cons_succ, List.setIfInBounds_toArray, List.set_cons_zero, List.set_cons_succ]
    refine wpAnyH_take (i := 4) (v := (.bool false)) rfl (by kernel_rfl) (by kernel_rfl) (by kernel_rfl) (fun _ _ _ h => h) (Or.inl ⟨by kernel_rfl, fun w' hSw => (by go_simp)⟩) (by assumption) ?_
    try simp only [Act.put, List.getElem_toArray, List.getElem_cons_zero, List.getElem_cons_succ, List.setIfInBounds_toArray, List.set_cons_zero, List.set_cons_succ]
    refine wpAnyH_take (i := 5) (v := (.bool false)) rfl (by kernel_rfl) (by kernel_rfl) (by kernel_rfl) (fun _ _ _ h => h) (Or.inl ⟨by kernel_rfl, fun w' hSw => (by go_simp)⟩) (by assumption) ?_
    try simp only [Act.put, List.getElem_toArray, List.getElem_cons_zero, List.getElem_cons_succ, List.setIfInBounds_toArray, List.set_cons_zero, List.set_cons_succ]
    refine wpAnyH_take (i := 6) (v := (.agg #[.bool n.1, .slice va n.2.1.length vc, .int .i64 n.2.2])) rfl (by kernel_rfl) (by kernel_rfl) (by kernel_rfl) (fun _ _ _ h => h) (yieldsIf_load_mid (by kernel_rfl) 43 _ rfl w.heap.size 0 rfl [.bool n.1, .slice va n.2.1.length vc, .int .i64 n.2.2] _ (fun W hW => rng3 hW.1) Tryz.underlying43 rfl (by kernel_rfl)) (by assumption) ?_
    try simp only [Act.put, List.getElem_toArray, List.getElem_cons_zero, List.getElem_cons_succ, List.setIfInBounds_toArray, List.set_cons_zero, List.set_cons_succ]
    refine wpAnyH_take (i := 7) (v := (.slice (some ⟨w.heap.size + 1 + 1, 0, none⟩) 24 24)) rfl (by kernel_rfl) (by kernel_rfl) (by kernel_rfl) (fun _ _ _ h => h) (Or.inl ⟨by kernel_rfl, fun w' hSw => (by go_simp)⟩) (by assumption) ?_
    try simp only [Act.put, List.getElem_toArray, List.getElem_cons_zero, List.getElem_cons_succ, List.setIfInBounds_toArray, List.set_cons_zero, List.set_cons_succ]
    refine wpAnyH_take (i := 8) (v := (.int .i64 21)) rfl (by kernel_rfl) (by kernel_rfl) (by kernel_rfl) (fun _ _ _ h => h) (Or.inl ⟨by kernel_rfl, fun w' hSw => (by go_simp)⟩) (by assumption) ?_
    try simp only [Act.put, List.getElem_toArray, List.getElem_cons_zero, List.getElem_cons_succ, List.setIfInBounds_toArray, List.set_cons_zero, List.set_cons_succ]
    refine wpAnyH_take (i := 9) (v := (.pointer (some ⟨w.heap.size + 1 + 1, 21, none⟩))) rfl (by kernel_rfl) (by kernel_rfl) (by kernel_rfl) (fun _ _ _ h => h) (Or.inl ⟨by kernel_rfl, fun w' hSw => (by go_simp)⟩) (by assumption) ?_
    try simp only [Act.put, List.getElem_toArray, List.getElem_cons_zero, List.getElem_cons_succ, List.setIfInBounds_toArray, List.set_cons_zero, List.set_cons_succ]
    refine wpAnyH_take (i := 10) (v := (.string ⟨#[52, 50, 57, 52, 57, 54, 55, 50, 57, 53]⟩)) rfl (by kernel_rfl) (by kernel_rfl) (by kernel_rfl) (fun _ _ _ h => h) (Or.inl ⟨by kernel_rfl, fun w' hSw => (by have hc : w'.cell? ⟨w.heap.size + 1 + 1, 21, none⟩ = some (.string ⟨#[52, 50, 57, 52, 57, 54, 55, 50, 57, 53]⟩) := row_cell hSw.2.2; go_simp)⟩) (by assumption) ?_
    try simp only [Act.put, List.getElem_toArray, List.getElem_cons_zero, List.getElem_cons_succ, List.setIfInBounds_toArray, List.set_cons_zero, List.set_cons_succ]
    refine wpAnyH_ready (rs := [11]) (by kernel_rfl) (by simp) ?_
    refine AllReadyH.cons rfl (fun K hK => ?_) AllReadyH.nil
    go_simp
    refine Calls.mono (bound_r (n := (false, [4, 2, 9, 4, 9, 6, 7, 2, 9, 5], 0)) ⟨#[52, 50, 57, 52, 57, 54, 55, 50, 57, 53]⟩ _ (by decide) pb12) ?_
    rintro e w9 ⟨rv, rfl, hb9, hrv⟩
    have hbb := HB.out.trans (hb9.mono HB.out.size)
    have hS9 := HK.out _ hbb
    clear HB hHeld
    have HB : Hid _ := hbb
    have HRV : Hid _ := hrv
    clear hbb hb9 hrv
    go_wp2_with fail
    refine hK.out _ _ hS9 (fun hHeld => ?_)
    clear hK K hS9
    try simp only [Act.put, List.getElem_toArray, List.getElem_cons_zero, List.getElem_cons_succ, List.setIfInBounds_toArray, List.set_cons_zero, List.set_cons_succ]
    refine wpAnyH_ready (rs := [12]) (by kernel_rfl) (by simp) ?_
    refine AllReadyH.cons rfl (fun K hK => ?_) AllReadyH.nil
    go_simp
    have hcr := Dc.cmp_r (HN.out _ HB.out) HRV.out
    refine Calls.mono hcr ?_
    clear hcr
    rintro e w9 ⟨rfl, hb9⟩
    have hbb := HB.out.trans (hb9.mono HB.out.size)
    have hS9 := HK.out _ hbb
    clear HB hHeld
    have HB : Hid _ := hbb
    clear hbb hb9
    rw [HCh]
    go_wp2_with fail
    refine hK.out _ _ hS9 (fun hHeld => ?_)
    clear hK K hS9
    try simp only [Act.put, List.getElem_toArray, List.getElem_cons_zero, List.getElem_cons_succ, List.setIfInBounds_toArray, List.set_cons_zero, List.set_cons_succ]
    refine wpAnyH_take (i := 13) (v := (.bool false)) rfl (by kernel_rfl) (by kernel_rfl) (by kernel_rfl) (fun _ _ _ h => h) (Or.inl ⟨by kernel_rfl, fun w' hSw => (by go_simp)⟩) (by assumption) ?_
    try simp only [Act.put, List.getElem_toArray, List.getElem_cons_zero, List.getElem_cons_succ, List.setIfInBounds_toArray, List.set_cons_zero, List.set_cons_succ]
    refine wpAnyH_take (i := 14) (v := (.bool false)) rfl (by kernel_rfl) (by kernel_rfl) (by kernel_rfl) (fun _ _ _ h => h) (Or.inl ⟨by kernel_rfl, fun w' hSw => (by go_simp)⟩) (by assumption) ?_
    try simp only [Act.put, List.getElem_toArray, List.getElem_cons_zero, List.getElem_cons_succ, List.setIfInBounds_toArray, List.set_cons_zero, List.set_cons_succ]
    refine wpAnyH_take (i := 15) (v := (.bool false)) rfl (by kernel_rfl) (by kernel_rfl) (by kernel_rfl) (fun _ _ _ h => h) (Or.inl ⟨by kernel_rfl, fun w' hSw => (by go_simp)⟩) (by assumption) ?_
    try simp only [Act.put, List.getElem_toArray, List.getElem_cons_zero, List.getElem_cons_succ, List.setIfInBounds_toArray, List.set_cons_zero, List.set_cons_succ]
    refine wpAnyH_done (by kernel_rfl) ?_ _
    go_wp2_with fail
    go_ret
    exact ⟨ret_b HE.out.symm, HU.out.trans (HB.out.mono HU.out.size)⟩
set_option maxRecDepth 100000 in
set_option maxHeartbeats 6400000 in
theorem within_22 {w : World} {v : Value} {n : Dc.Nm} (hn : Dc.NmR w v n) (h0 : n.2.2 = 0) : Calls Tryz.prog 43 #[.int .i64 22, Dc.nmV n.1 v n.2.2] w fun e w' => e = .returned (.bool (wiB 22 (Dc.nv n 0))) ∧ Below w.heap.size w w' := by
  have hl := (cmp_whole hn.cn h0 pb0c rfl).1
  rw [pb0v] at hl
  have hh := (cmp_whole hn.cn h0 pb13c rfl).2
  rw [pb13v] at hh
  have HW : Hid ((Dc.cmpS n (false, [0], 0) < 0 ↔ Dc.nv n 0 < 0) ∧ (Dc.cmpS n (false, [6, 5, 5, 3, 5], 0) ≤ 0 ↔ Dc.nv n 0 ≤ 65535)) := ⟨hl, hh⟩
  clear hl hh
  obtain ⟨va, vc, rfl, _⟩ := hn.bt.form
  have hx := M.nw_heap w (.cells #[.bool n.1, .slice va n.2.1.length vc, .int .i64 n.2.2] 43)
  have hb1 : Below w.heap.size w (((w.alloc (.cells #[.bool n.1, .slice va n.2.1.length vc, .int .i64 n.2.2] 43)).alloc (.cells loT 9)).alloc (.cells hiT 9)) := bel3 w _ _ _
  have hS := blocks3 w (.cells #[.bool n.1, .slice va n.2.1.length vc, .int .i64 n.2.2] 43) (.cells loT 9) (.cells hiT 9)
  obtain ⟨U, hU⟩ : ∃ U, ((w.alloc (.cells #[.bool n.1, .slice va n.2.1.length vc, .int .i64 n.2.2] 43)).alloc (.cells loT 9)).alloc (.cells hiT 9) = U := ⟨_, rfl⟩
  rw [hU] at hb1 hS
  have HN : Hid _ := fun W (hW : Below U.heap.size U W) => hn.below (hb1.trans (hW.mono hb1.size))
  have HK : Hid (∀ W, Below U.heap.size U W → _ ∧ _ ∧ _) := fun W hW => And.intro ((hW.block _ (Dc.lt_of hS.1)).trans hS.1) (And.intro ((hW.block _ (Dc.lt_of hS.2.1)).trans hS.2.1) ((hW.block _ (Dc.lt_of hS.2.2)).trans hS.2.2))
  have HU : Hid _ := hb1
  clear hx hb1 hS hn h0
  obtain ⟨c, HCl⟩ : ∃ c, Dc.cmpS n (false, [0], 0) = c := ⟨_, rfl⟩
  obtain ⟨d, HCh⟩ : ∃ d, Dc.cmpS n (false, [6, 5, 5, 3, 5], 0) = d := ⟨_, rfl⟩
  go_enter Tryz.func43, Tryz.ntmps43
  go_upto_region 3 with fail
  try rw [show ((w.alloc (.cells #[.bool n.1, .slice va n.2.1.length vc, .int .i64 n.2.2] 43)).alloc (.cells #[.string ⟨#[]⟩, .string ⟨#[]⟩, .string ⟨#[]⟩, .string ⟨#[]⟩, .string ⟨#[]⟩, .string ⟨#[]⟩, .string ⟨#[]⟩, .string ⟨#[]⟩, .string ⟨#[]⟩, .string ⟨#[]⟩, .string ⟨#[]⟩, .string ⟨#[]⟩, .string ⟨#[]⟩, .string ⟨#[]⟩, .string ⟨#[48]⟩, .string ⟨#[49]⟩, .string ⟨#[45, 57, 50, 50, 51, 51, 55, 50, 48, 51, 54, 56, 53, 52, 55, 55, 53, 56, 48, 56]⟩, .string ⟨#[45, 50, 49, 52, 55, 52, 56, 51, 54, 52, 56]⟩, .string ⟨#[45, 51, 50, 55, 54, 56]⟩, .string ⟨#[45, 49, 50, 56]⟩, .string ⟨#[48]⟩, .string ⟨#[48]⟩, .string ⟨#[48]⟩, .string ⟨#[48]⟩] 9)).alloc (.cells #[.string ⟨#[]⟩, .string ⟨#[]⟩, .string ⟨#[]⟩, .string ⟨#[]⟩, .string ⟨#[]⟩, .string ⟨#[]⟩, .string ⟨#[]⟩, .string ⟨#[]⟩, .string ⟨#[]⟩, .string ⟨#[]⟩, .string ⟨#[]⟩, .string ⟨#[]⟩, .string ⟨#[48]⟩, .string ⟨#[45, 49]⟩, .string ⟨#[]⟩, .string ⟨#[]⟩, .string ⟨#[57, 50, 50, 51, 51, 55, 50, 48, 51, 54, 56, 53, 52, 55, 55, 53, 56, 48, 55]⟩, .string ⟨#[50, 49, 52, 55, 52, 56, 51, 54, 52, 55]⟩, .string ⟨#[51, 50, 55, 54, 55]⟩, .string ⟨#[49, 50, 55]⟩, .string ⟨#[49, 56, 52, 52, 54, 55, 52, 52, 48, 55, 51, 55, 48, 57, 53, 53, 49, 54, 49, 53]⟩, .string ⟨#[52, 50, 57, 52, 57, 54, 55, 50, 57, 53]⟩, .string ⟨#[54, 53, 53, 51, 53]⟩, .string ⟨#[50, 53, 53]⟩] 9) = U from hU]
  clear hU
  have HB : Hid (Below U.heap.size U U.drew) := Dc.Below.drewN' 1
  by_cases hc : c < 0
  · have hcd : decide (c < 0) = true := by simpa using hc
    have HE : Hid (wiB 22 (Dc.nv n 0) = false) := by
      show _ = _
      have := HW.out.1
      rw [HCl] at this
      unfold wiB
      simp
      omega
    clear hc
    refine wp_region_held_drew (S := fun W => W.heap[w.heap.size]? = some (.cells #[.bool n.1, .slice va n.2.1.length vc, .int .i64 n.2.2] 43 (0, 0)) ∧ W.heap[w.heap.size + 1]? = some (.cells loT 9 (0, 0)) ∧ W.heap[w.heap.size + 1 + 1]? = some (.cells hiT 9 (0, 0))) (by kernel_rfl) (HK.out _ HB.out) (fun hHeld => ?_)
    refine wpAnyH_take (i := 0) (v := (.slice (some ⟨w.heap.size + 1, 0, none⟩) 24 24)) rfl (by kernel_rfl) (by kernel_rfl) (by kernel_rfl) (fun _ _ _ h => h) (Or.inl ⟨by kernel_rfl, fun w' hSw => (by go_simp)⟩) (by assumption) ?_
    try simp only [Act.put, List.getElem_toArray, List.getElem_cons_zero, List.getElem_cons_succ, List.setIfInBounds_toArray, List.set_cons_zero, List.set_cons_succ]
    refine wpAnyH_take (i := 1) (v := (.int .i64 22)) rfl (by kernel_rfl) (by kernel_rfl) (by kernel_rfl) (fun _ _ _ h => h) (Or.inl ⟨by kernel_rfl, fun w' hSw => (by go_simp)⟩) (by assumption) ?_
    try simp only [Act.put, List.getElem_toArray, List.getElem_cons_zero, List.getElem_cons_succ, List.setIfInBounds_toArray, List.set_cons_zero, List.set_cons_succ]
    refine wpAnyH_take (i := 2) (v := (.pointer (some ⟨w.heap.size + 1, 22, none⟩))) rfl (by kernel_rfl) (by kernel_rfl) (by kernel_rfl) (fun _ _ _ h => h) (Or.inl ⟨by kernel_rfl, fun w' hSw => (by go_simp)⟩) (by assumption) ?_
    try simp only [Act.put, List.getElem_toArray, List.getElem_cons_zero, List.getElem_cons_succ, List.setIfInBounds_toArray, List.set_cons_zero, List.set_cons_succ]
    refine wpAnyH_take (i := 3) (v := (.string ⟨#[48]⟩)) rfl (by kernel_rfl) (by kernel_rfl) (by kernel_rfl) (fun _ _ _ h => h) (Or.inl ⟨by kernel_rfl, fun w' hSw => (by have hc : w'.cell? ⟨w.heap.size + 1, 22, none⟩ = some (.string ⟨#[48]⟩) := row_cell hSw.2.1; go_simp)⟩) (by assumption) ?_
    try simp only [Act.put, List.getElem_toArray, List.getElem_cons_zero, List.getElem_cons_succ, List.setIfInBounds_toArray, List.set_cons_zero, List.set_cons_succ]
    refine wpAnyH_take (i := 4) (v := (.bool true)) rfl (by kernel_rfl) (by kernel_rfl) (by kernel_rfl) (fun _ _ _ h => h) (Or.inl ⟨by kernel_rfl, fun w' hSw => (by go_simp)⟩) (by assumption) ?_
    try simp only [Act.put, List.getElem_toArray, List.getElem_cons_zero, List.getElem_cons_succ, List.setIfInBounds_toArray, List.set_cons_zero, List.set_cons_succ]
    refine wpAnyH_take (i := 5) (v := (.bool true)) rfl (by kernel_rfl) (by kernel_rfl) (by kernel_rfl) (fun _ _ _ h => h) (Or.inl ⟨by kernel_rfl, fun w' hSw => (by go_simp)⟩) (by assumption) ?_
    try simp only [Act.put, List.getElem_toArray, List.getElem_cons_zero, List.getElem_cons_succ, List.setIfInBounds_toArray, List.set_cons_zero, List.set_cons_succ]
    refine wpAnyH_take (i := 6) (v := (.agg #[.bool n.1, .slice va n.2.1.length vc, .int .i64 n.2.2])) rfl (by kernel_rfl) (by kernel_rfl) (by kernel_rfl) (fun _ _ _ h => h) (yieldsIf_load_mid (by kernel_rfl) 43 _ rfl w.heap.size 0 rfl [.bool n.1, .slice va n.2.1.length vc, .int .i64 n.2.2] _ (fun W hW => rng3 hW.1) Tryz.underlying43 rfl (by kernel_rfl)) (by assumption) ?_
    try simp only [Act.put, List.getElem_toArray, List.getElem_cons_zero, List.getElem_cons_succ, List.setIfInBounds_toArray, List.set_cons_zero, List.set_cons_succ]
    refine wpAnyH_take (i := 7) (v := (.slice (some ⟨w.heap.size + 1, 0, none⟩) 24 24)) rfl (by kernel_rfl) (by kernel_rfl) (by kernel_rfl) (fun _ _ _ h => h) (Or.inl ⟨by kernel_rfl, fun w' hSw => (by go_simp)⟩) (by assumption) ?_
    try simp only [Act.put, List.getElem_toArray, List.getElem_cons_zero, List.getElem_cons_succ, List.setIfInBounds_toArray, List.set_cons_zero, List.set_cons_succ]
    refine wpAnyH_take (i := 8) (v := (.int .i64 22)) rfl (by kernel_rfl) (by kernel_rfl) (by kernel_rfl) (fun _ _ _ h => h) (Or.inl ⟨by kernel_rfl, fun w' hSw => (by go_simp)⟩) (by assumption) ?_
    try simp only [Act.put, List.getElem_toArray, List.getElem_cons_zero, List.getElem_cons_succ, List.setIfInBounds_toArray, List.set_cons_zero, List.set_cons_succ]
    refine wpAnyH_take (i := 9) (v := (.pointer (some ⟨w.heap.size + 1, 22, none⟩))) rfl (by kernel_rfl) (by kernel_rfl) (by kernel_rfl) (fun _ _ _ h => h) (Or.inl ⟨by kernel_rfl, fun w' hSw => (by go_simp)⟩) (by assumption) ?_
    try simp only [Act.put, List.getElem_toArray, List.getElem_cons_zero, List.getElem_cons_succ, List.setIfInBounds_toArray, List.set_cons_zero, List.set_cons_succ]
    refine wpAnyH_take (i := 10) (v := (.string ⟨#[48]⟩)) rfl (by kernel_rfl) (by kernel_rfl) (by kernel_rfl) (fun _ _ _ h => h) (Or.inl ⟨by kernel_rfl, fun w' hSw => (by have hc : w'.cell? ⟨w.heap.size + 1, 22, none⟩ = some (.string ⟨#[48]⟩) := row_cell hSw.2.1; go_simp)⟩) (by assumption) ?_
    try simp only [Act.put, List.getElem_toArray, List.getElem_cons_zero, List.getElem_cons_succ, List.setIfInBounds_toArray, List.set_cons_zero, List.set_cons_succ]
    refine wpAnyH_ready (rs := [11]) (by kernel_rfl) (by simp) ?_
    refine AllReadyH.cons rfl (fun K hK => ?_) AllReadyH.nil
    go_simp
    refine Calls.mono (bound_r (n := (false, [0], 0)) ⟨#[48]⟩ _ (by decide) pb0) ?_
    rintro e w9 ⟨rv, rfl, hb9, hrv⟩
    have hbb := HB.out.trans (hb9.mono HB.out.size)
    have hS9 := HK.out _ hbb
    clear HB hHeld
    have HB : Hid _ := hbb
    have HRV : Hid _ := hrv
    clear hbb hb9 hrv
    go_wp2_with fail
    refine hK.out _ _ hS9 (fun hHeld => ?_)
    clear hK K hS9
    try simp only [Act.put, List.getElem_toArray, List.getElem_cons_zero, List.getElem_cons_succ, List.setIfInBounds_toArray, List.set_cons_zero, List.set_cons_succ]
    refine wpAnyH_ready (rs := [12]) (by kernel_rfl) (by simp) ?_
    refine AllReadyH.cons rfl (fun K hK => ?_) AllReadyH.nil
    go_simp
    have hcr := Dc.cmp_r (HN.out _ HB.out) HRV.out
    refine Calls.mono hcr ?_
    clear hcr
    rintro e w9 ⟨rfl, hb9⟩
    have hbb := HB.out.trans (hb9.mono HB.out.size)
    have hS9 := HK.out _ hbb
    clear HB hHeld
    have HB : Hid _ := hbb
    clear hbb hb9
    rw [HCl]
    go_wp2_with fail
    refine hK.out _ _ hS9 (fun hHeld => ?_)
    clear hK K hS9
    try simp only [Act.put, List.getElem_toArray, List.getElem_cons_zero, List.getElem_cons_succ, List.setIfInBounds_toArray, List.set_cons_zero, List.set_cons_succ]
    refine wpAnyH_take (i := 13) (v := (.bool true)) rfl (by kernel_rfl) (by kernel_rfl) (by kernel_rfl) (fun _ _ _ h => h) (Or.inl ⟨by kernel_rfl, fun w' hSw => (by go_simp)⟩) (by assumption) ?_
    try simp only [Act.put, List.getElem_toArray, List.getElem_cons_zero, List.getElem_cons_succ, List.setIfInBounds_toArray, List.set_cons_zero, List.set_cons_succ]
    refine wpAnyH_take (i := 14) (v := (.bool true)) rfl (by kernel_rfl) (by kernel_rfl) (by kernel_rfl) (fun _ _ _ h => h) (Or.inl ⟨by kernel_rfl, fun w' hSw => (by go_simp)⟩) (by assumption) ?_
    try simp only [Act.put, List.getElem_toArray, List.getElem_cons_zero, List.getElem_cons_succ, List.setIfInBounds_toArray, List.set_cons_zero, List.set_cons_succ]
    refine wpAnyH_done (by kernel_rfl) ?_ _
    clear hHeld
    go_wp2_with fail
    go_ret
    exact ⟨ret_b HE.out.symm, HU.out.trans (HB.out.mono HU.out.size)⟩
  have hcd : decide (c < 0) = false := by simpa using hc
  have HCN : Hid (¬ c < 0) := hc
  clear hc
  refine wp_region_held_drew (S := fun W => W.heap[w.heap.size]? = some (.cells #[.bool n.1, .slice va n.2.1.length vc, .int .i64 n.2.2] 43 (0, 0)) ∧ W.heap[w.heap.size + 1]? = some (.cells loT 9 (0, 0)) ∧ W.heap[w.heap.size + 1 + 1]? = some (.cells hiT 9 (0, 0))) (by kernel_rfl) (HK.out _ HB.out) (fun hHeld => ?_)
  refine wpAnyH_take (i := 0) (v := (.slice (some ⟨w.heap.size + 1, 0, none⟩) 24 24)) rfl (by kernel_rfl) (by kernel_rfl) (by kernel_rfl) (fun _ _ _ h => h) (Or.inl ⟨by kernel_rfl, fun w' hSw => (by go_simp)⟩) (by assumption) ?_
  try simp only [Act.put, List.getElem_toArray, List.getElem_cons_zero, List.getElem_cons_succ, List.setIfInBounds_toArray, List.set_cons_zero, List.set_cons_succ]
  refine wpAnyH_take (i := 1) (v := (.int .i64 22)) rfl (by kernel_rfl) (by kernel_rfl) (by kernel_rfl) (fun _ _ _ h => h) (Or.inl ⟨by kernel_rfl, fun w' hSw => (by go_simp)⟩) (by assumption) ?_
  try simp only [Act.put, List.getElem_toArray, List.getElem_cons_zero, List.getElem_cons_succ, List.setIfInBounds_toArray, List.set_cons_zero, List.set_cons_succ]
  refine wpAnyH_take (i := 2) (v := (.pointer (some ⟨w.heap.size + 1, 22, none⟩))) rfl (by kernel_rfl) (by kernel_rfl) (by kernel_rfl) (fun _ _ _ h => h) (Or.inl ⟨by kernel_rfl, fun w' hSw => (by go_simp)⟩) (by assumption) ?_
  try simp only [Act.put, List.getElem_toArray, List.getElem_cons_zero, List.getElem_cons_succ, List.setIfInBounds_toArray, List.set_cons_zero, List.set_cons_succ]
  refine wpAnyH_take (i := 3) (v := (.string ⟨#[48]⟩)) rfl (by kernel_rfl) (by kernel_rfl) (by kernel_rfl) (fun _ _ _ h => h) (Or.inl ⟨by kernel_rfl, fun w' hSw => (by have hc : w'.cell? ⟨w.heap.size + 1, 22, none⟩ = some (.string ⟨#[48]⟩) := row_cell hSw.2.1; go_simp)⟩) (by assumption) ?_
  try simp only [Act.put, List.getElem_toArray, List.getElem_cons_zero, List.getElem_cons_succ, List.setIfInBounds_toArray, List.set_cons_zero, List.set_cons_succ]
  refine wpAnyH_take (i := 4) (v := (.bool true)) rfl (by kernel_rfl) (by kernel_rfl) (by kernel_rfl) (fun _ _ _ h => h) (Or.inl ⟨by kernel_rfl, fun w' hSw => (by go_simp)⟩) (by assumption) ?_
  try simp only [Act.put, List.getElem_toArray, List.getElem_cons_zero, List.getElem_cons_succ, List.setIfInBounds_toArray, List.set_cons_zero, List.set_cons_succ]
  refine wpAnyH_take (i := 5) (v := (.bool true)) rfl (by kernel_rfl) (by kernel_rfl) (by kernel_rfl) (fun _ _ _ h => h) (Or.inl ⟨by kernel_rfl, fun w' hSw => (by go_simp)⟩) (by assumption) ?_
  try simp only [Act.put, List.getElem_toArray, List.getElem_cons_zero, List.getElem_cons_succ, List.setIfInBounds_toArray, List.set_cons_zero, List.set_cons_succ]
  refine wpAnyH_take (i := 6) (v := (.agg #[.bool n.1, .slice va n.2.1.length vc, .int .i64 n.2.2])) rfl (by kernel_rfl) (by kernel_rfl) (by kernel_rfl) (fun _ _ _ h => h) (yieldsIf_load_mid (by kernel_rfl) 43 _ rfl w.heap.size 0 rfl [.bool n.1, .slice va n.2.1.length vc, .int .i64 n.2.2] _ (fun W hW => rng3 hW.1) Tryz.underlying43 rfl (by kernel_rfl)) (by assumption) ?_
  try simp only [Act.put, List.getElem_toArray, List.getElem_cons_zero, List.getElem_cons_succ, List.setIfInBounds_toArray, List.set_cons_zero, List.set_cons_succ]
  refine wpAnyH_take (i := 7) (v := (.slice (some ⟨w.heap.size + 1, 0, none⟩) 24 24)) rfl (by kernel_rfl) (by kernel_rfl) (by kernel_rfl) (fun _ _ _ h => h) (Or.inl ⟨by kernel_rfl, fun w' hSw => (by go_simp)⟩) (by assumption) ?_
  try simp only [Act.put, List.getElem_toArray, List.getElem_cons_zero, List.getElem_cons_succ, List.setIfInBounds_toArray, List.set_cons_zero, List.set_cons_succ]
  refine wpAnyH_take (i := 8) (v := (.int .i64 22)) rfl (by kernel_rfl) (by kernel_rfl) (by kernel_rfl) (fun _ _ _ h => h) (Or.inl ⟨by kernel_rfl, fun w' hSw => (by go_simp)⟩) (by assumption) ?_
  try simp only [Act.put, List.getElem_toArray, List.getElem_cons_zero, List.getElem_cons_succ, List.setIfInBounds_toArray, List.set_cons_zero, List.set_cons_succ]
  refine wpAnyH_take (i := 9) (v := (.pointer (some ⟨w.heap.size + 1, 22, none⟩))) rfl (by kernel_rfl) (by kernel_rfl) (by kernel_rfl) (fun _ _ _ h => h) (Or.inl ⟨by kernel_rfl, fun w' hSw => (by go_simp)⟩) (by assumption) ?_
  try simp only [Act.put, List.getElem_toArray, List.getElem_cons_zero, List.getElem_cons_succ, List.setIfInBounds_toArray, List.set_cons_zero, List.set_cons_succ]
  refine wpAnyH_take (i := 10) (v := (.string ⟨#[48]⟩)) rfl (by kernel_rfl) (by kernel_rfl) (by kernel_rfl) (fun _ _ _ h => h) (Or.inl ⟨by kernel_rfl, fun w' hSw => (by have hc : w'.cell? ⟨w.heap.size + 1, 22, none⟩ = some (.string ⟨#[48]⟩) := row_cell hSw.2.1; go_simp)⟩) (by assumption) ?_
  try simp only [Act.put, List.getElem_toArray, List.getElem_cons_zero, List.getElem_cons_succ, List.setIfInBounds_toArray, List.set_cons_zero, List.set_cons_succ]
  refine wpAnyH_ready (rs := [11]) (by kernel_rfl) (by simp) ?_
  refine AllReadyH.cons rfl (fun K hK => ?_) AllReadyH.nil
  go_simp
  refine Calls.mono (bound_r (n := (false, [0], 0)) ⟨#[48]⟩ _ (by decide) pb0) ?_
  rintro e w9 ⟨rv, rfl, hb9, hrv⟩
  have hbb := HB.out.trans (hb9.mono HB.out.size)
  have hS9 := HK.out _ hbb
  clear HB hHeld
  have HB : Hid _ := hbb
  have HRV : Hid _ := hrv
  clear hbb hb9 hrv
  go_wp2_with fail
  refine hK.out _ _ hS9 (fun hHeld => ?_)
  clear hK K hS9
  try simp only [Act.put, List.getElem_toArray, List.getElem_cons_zero, List.getElem_cons_succ, List.setIfInBounds_toArray, List.set_cons_zero, List.set_cons_succ]
  refine wpAnyH_ready (rs := [12]) (by kernel_rfl) (by simp) ?_
  refine AllReadyH.cons rfl (fun K hK => ?_) AllReadyH.nil
  go_simp
  have hcr := Dc.cmp_r (HN.out _ HB.out) HRV.out
  refine Calls.mono hcr ?_
  clear hcr
  rintro e w9 ⟨rfl, hb9⟩
  have hbb := HB.out.trans (hb9.mono HB.out.size)
  have hS9 := HK.out _ hbb
  clear HB hHeld
  have HB : Hid _ := hbb
  clear hbb hb9
  rw [HCl]
  go_wp2_with fail
  refine hK.out _ _ hS9 (fun hHeld => ?_)
  clear hK K hS9
  try simp only [Act.put, List.getElem_toArray, List.getElem_cons_zero, List.getElem_cons_succ, List.setIfInBounds_toArray, List.set_cons_zero, List.set_cons_succ]
  refine wpAnyH_take (i := 13) (v := (.bool false)) rfl (by kernel_rfl) (by kernel_rfl) (by kernel_rfl) (fun _ _ _ h => h) (Or.inl ⟨by kernel_rfl, fun w' hSw => (by go_simp)⟩) (by assumption) ?_
  try simp only [Act.put, List.getElem_toArray, List.getElem_cons_zero, List.getElem_cons_succ, List.setIfInBounds_toArray, List.set_cons_zero, List.set_cons_succ]
  refine wpAnyH_take (i := 14) (v := (.bool false)) rfl (by kernel_rfl) (by kernel_rfl) (by kernel_rfl) (fun _ _ _ h => h) (Or.inl ⟨by kernel_rfl, fun w' hSw => (by go_simp)⟩) (by assumption) ?_
  try simp only [Act.put, List.getElem_toArray, List.getElem_cons_zero, List.getElem_cons_succ, List.setIfInBounds_toArray, List.set_cons_zero, List.set_cons_succ]
  refine wpAnyH_done (by kernel_rfl) ?_ _
  clear hHeld HRV
  go_upto_region 5 with fail
  by_cases hd : d ≤ 0
  · have hdd : decide (d ≤ 0) = true := by simpa using hd
    have HE : Hid (wiB 22 (Dc.nv n 0) = true) := by
      show _ = _
      have h2 := HW.out.2
      rw [HCh] at h2
      have h1 := HW.out.1
      rw [HCl] at h1
      have h3 := HCN.out
      unfold wiB
      simp
      omega
    clear hd
    have HB1 : Hid _ := HB.out
    clear HB
    have HB : Hid (Below U.heap.size U w9.drew) := HB1.out.trans ((Dc.Below.drewN' 1).mono HB1.out.size)
    refine wp_region_held_drew (S := fun W => W.heap[w.heap.size]? = some (.cells #[.bool n.1, .slice va n.2.1.length vc, .int .i64 n.2.2] 43 (0, 0)) ∧ W.heap[w.heap.size + 1]? = some (.cells loT 9 (0, 0)) ∧ W.heap[w.heap.size + 1 + 1]? = some (.cells hiT 9 (0, 0))) (by kernel_rfl) (HK.out _ HB.out) (fun hHeld => ?_)
    refine wpAnyH_take (i := 0) (v := (.slice (some ⟨w.heap.size + 1 + 1, 0, none⟩) 24 24)) rfl (by kernel_rfl) (by kernel_rfl) (by kernel_rfl) (fun _ _ _ h => h) (Or.inl ⟨by kernel_rfl, fun w' hSw => (by go_simp)⟩) (by assumption) ?_
    try simp only [Act.put, List.getElem_toArray, List.getElem_cons_zero, List.getElem_cons_succ, List.setIfInBounds_toArray, List.set_cons_zero, List.set_cons_succ]
    refine wpAnyH_take (i := 1) (v := (.int .i64 22)) rfl (by kernel_rfl) (by kernel_rfl) (by kernel_rfl) (fun _ _ _ h => h) (Or.inl ⟨by kernel_rfl, fun w' hSw => (by go_simp)⟩) (by assumption) ?_
    try simp only [Act.put, List.getElem_toArray, List.getElem_cons_zero, List.getElem_cons_succ, List.setIfInBounds_toArray, List.set_cons_zero, List.set_cons_succ]
    refine wpAnyH_take (i := 2) (v := (.pointer (some ⟨w.heap.size + 1 + 1, 22, none⟩))) rfl (by kernel_rfl) (by kernel_rfl) (by kernel_rfl) (fun _ _ _ h => h) (Or.inl ⟨by kernel_rfl, fun w' hSw => (by go_simp)⟩) (by assumption) ?_
    try simp only [Act.put, List.getElem_toArray, List.getElem_cons_zero, List.getElem_cons_succ, List.setIfInBounds_toArray, List.set_cons_zero, List.set_cons_succ]
    refine wpAnyH_take (i := 3) (v := (.string ⟨#[54, 53, 53, 51, 53]⟩)) rfl (by kernel_rfl) (by kernel_rfl) (by kernel_rfl) (fun _ _ _ h => h) (Or.inl ⟨by kernel_rfl, fun w' hSw => (by have hc : w'.cell? ⟨w.heap.size + 1 + 1, 22, none⟩ = some (.string ⟨#[54, 53, 53, 51, 53]⟩) := row_cell hSw.2.2; go_simp)⟩) (by assumption) ?_
    try simp only [Act.put, List.getElem_toArray, List.getElem_cons_zero, List.getElem_cons_succ, List.setIfInBounds_toArray, List.set_cons_zero, List.set_cons_succ]
    refine wpAnyH_take (i := 4) (v := (.bool false)) rfl (by kernel_rfl) (by kernel_rfl) (by kernel_rfl) (fun _ _ _ h => h) (Or.inl ⟨by kernel_rfl, fun w' hSw => (by go_simp)⟩) (by assumption) ?_
    try simp only [Act.put, List.getElem_toArray, List.getElem_cons_zero, List.getElem_cons_succ, List.setIfInBounds_toArray, List.set_cons_zero, List.set_cons_succ]
    refine wpAnyH_take (i := 5) (v := (.bool false)) rfl (by kernel_rfl) (by kernel_rfl) (by kernel_rfl) (fun _ _ _ h => h) (Or.inl ⟨by kernel_rfl, fun w' hSw => (by go_simp)⟩) (by assumption) ?_
    try simp only [Act.put, List.getElem_toArray, List.getElem_cons_zero, List.getElem_cons_succ, List.setIfInBounds_toArray, List.set_cons_zero, List.set_cons_succ]
    refine wpAnyH_take (i := 6) (v := (.agg #[.bool n.1, .slice va n.2.1.length vc, .int .i64 n.2.2])) rfl (by kernel_rfl) (by kernel_rfl) (by kernel_rfl) (fun _ _ _ h => h) (yieldsIf_load_mid (by kernel_rfl) 43 _ rfl w.heap.size 0 rfl [.bool n.1, .slice va n.2.1.length vc, .int .i64 n.2.2] _ (fun W hW => rng3 hW.1) Tryz.underlying43 rfl (by kernel_rfl)) (by assumption) ?_
    try simp only [Act.put, List.getElem_toArray, List.getElem_cons_zero, List.getElem_cons_succ, List.setIfInBounds_toArray, List.set_cons_zero, List.set_cons_succ]
    refine wpAnyH_take (i := 7) (v := (.slice (some ⟨w.heap.size + 1 + 1, 0, none⟩) 24 24)) rfl (by kernel_rfl) (by kernel_rfl) (by kernel_rfl) (fun _ _ _ h => h) (Or.inl ⟨by kernel_rfl, fun w' hSw => (by go_simp)⟩) (by assumption) ?_
    try simp only [Act.put, List.getElem_toArray, List.getElem_cons_zero, List.getElem_cons_succ, List.setIfInBounds_toArray, List.set_cons_zero, List.set_cons_succ]
    refine wpAnyH_take (i := 8) (v := (.int .i64 22)) rfl (by kernel_rfl) (by kernel_rfl) (by kernel_rfl) (fun _ _ _ h => h) (Or.inl ⟨by kernel_rfl, fun w' hSw => (by go_simp)⟩) (by assumption) ?_
    try simp only [Act.put, List.getElem_toArray, List.getElem_cons_zero, List.getElem_cons_succ, List.setIfInBounds_toArray, List.set_cons_zero, List.set_cons_succ]
    refine wpAnyH_take (i := 9) (v := (.pointer (some ⟨w.heap.size + 1 + 1, 22, none⟩))) rfl (by kernel_rfl) (by kernel_rfl) (by kernel_rfl) (fun _ _ _ h => h) (Or.inl ⟨by kernel_rfl, fun w' hSw => (by go_simp)⟩) (by assumption) ?_
    try simp only [Act.put, List.getElem_toArray, List.getElem_cons_zero, List.getElem_cons_succ, List.setIfInBounds_toArray, List.set_cons_zero, List.set_cons_succ]
    refine wpAnyH_take (i := 10) (v := (.string ⟨#[54, 53, 53, 51, 53]⟩)) rfl (by kernel_rfl) (by kernel_rfl) (by kernel_rfl) (fun _ _ _ h => h) (Or.inl ⟨by kernel_rfl, fun w' hSw => (by have hc : w'.cell? ⟨w.heap.size + 1 + 1, 22, none⟩ = some (.string ⟨#[54, 53, 53, 51, 53]⟩) := row_cell hSw.2.2; go_simp)⟩) (by assumption) ?_
    try simp only [Act.put, List.getElem_toArray, List.getElem_cons_zero, List.getElem_cons_succ, List.setIfInBounds_toArray, List.set_cons_zero, List.set_cons_succ]
    refine wpAnyH_ready (rs := [11]) (by kernel_rfl) (by simp) ?_
    refine AllReadyH.cons rfl (fun K hK => ?_) AllReadyH.nil
    go_simp
    refine Calls.mono (bound_r (n := (false, [6, 5, 5, 3, 5], 0)) ⟨#[54, 53, 53, 51, 53]⟩ _ (by decide) pb13) ?_
    rintro e w9 ⟨rv, rfl, hb9, hrv⟩
    have hbb := HB.out.trans (hb9.mono HB.out.size)
    have hS9 := HK.out _ hbb
    clear HB hHeld
    have HB : Hid _ := hbb
    have HRV : Hid _ := hrv
    clear hbb hb9 hrv
    go_wp2_with fail
    refine hK.out _ _ hS9 (fun hHeld => ?_)
    clear hK K hS9
    try simp only [Act.put, List.getElem_toArray, List.getElem_cons_zero, List.getElem_cons_succ, List.setIfInBounds_toArray, List.set_cons_zero, List.set_cons_succ]
    refine wpAnyH_ready (rs := [12]) (by kernel_rfl) (by simp) ?_
    refine AllReadyH.cons rfl (fun K hK => ?_) AllReadyH.nil
    go_simp
    have hcr := Dc.cmp_r (HN.out _ HB.out) HRV.out
    refine Calls.mono hcr ?_
    clear hcr
    rintro e w9 ⟨rfl, hb9⟩
    have hbb := HB.out.trans (hb9.mono HB.out.size)
    have hS9 := HK.out _ hbb
    clear HB hHeld
    have HB : Hid _ := hbb
    clear hbb hb9
    rw [HCh]
    go_wp2_with fail
    refine hK.out _ _ hS9 (fun hHeld => ?_)
    clear hK K hS9
    try simp only [Act.put, List.getElem_toArray, List.getElem_cons_zero, List.getElem_cons_succ, List.setIfInBounds_toArray, List.set_cons_zero, List.set_cons_succ]
    refine wpAnyH_take (i := 13) (v := (.bool true)) rfl (by kernel_rfl) (by kernel_rfl) (by kernel_rfl) (fun _ _ _ h => h) (Or.inl ⟨by kernel_rfl, fun w' hSw => (by go_simp)⟩) (by assumption) ?_
    try simp only [Act.put, List.getElem_toArray, List.getElem_cons_zero, List.getElem_cons_succ, List.setIfInBounds_toArray, List.set_cons_zero, List.set_cons_succ]
    refine wpAnyH_take (i := 14) (v := (.bool true)) rfl (by kernel_rfl) (by kernel_rfl) (by kernel_rfl) (fun _ _ _ h => h) (Or.inl ⟨by kernel_rfl, fun w' hSw => (by go_simp)⟩) (by assumption) ?_
    try simp only [Act.put, List.getElem_toArray, List.getElem_cons_zero, List.getElem_cons_succ, List.setIfInBounds_toArray, List.set_cons_zero, List.set_cons_succ]
    refine wpAnyH_take (i := 15) (v := (.bool true)) rfl (by kernel_rfl) (by kernel_rfl) (by kernel_rfl) (fun _ _ _ h => h) (Or.inl ⟨by kernel_rfl, fun w' hSw => (by go_simp)⟩) (by assumption) ?_
    try simp only [Act.put, List.getElem_toArray, List.getElem_cons_zero, List.getElem_cons_succ, List.setIfInBounds_toArray, List.set_cons_zero, List.set_cons_succ]
    refine wpAnyH_done (by kernel_rfl) ?_ _
    go_wp2_with fail
    go_ret
    exact ⟨ret_b HE.out.symm, HU.out.trans (HB.out.mono HU.out.size)⟩
  · have hdd : decide (d ≤ 0) = false := by simpa using hd
    have HE : Hid (wiB 22 (Dc.nv n 0) = false) := by
      show _ = _
      have h2 := HW.out.2
      rw [HCh] at h2
      have h1 := HW.out.1
      rw [HCl] at h1
      have h3 := HCN.out
      unfold wiB
      simp
      omega
    clear hd
    have HB1 : Hid _ := HB.out
    clear HB
    have HB : Hid (Below U.heap.size U w9.drew) := HB1.out.trans ((Dc.Below.drewN' 1).mono HB1.out.size)
    refine wp_region_held_drew (S := fun W => W.heap[w.heap.size]? = some (.cells #[.bool n.1, .slice va n.2.1.length vc, .int .i64 n.2.2] 43 (0, 0)) ∧ W.heap[w.heap.size + 1]? = some (.cells loT 9 (0, 0)) ∧ W.heap[w.heap.size + 1 + 1]? = some (.cells hiT 9 (0, 0))) (by kernel_rfl) (HK.out _ HB.out) (fun hHeld => ?_)
    refine wpAnyH_take (i := 0) (v := (.slice (some ⟨w.heap.size + 1 + 1, 0, none⟩) 24 24)) rfl (by kernel_rfl) (by kernel_rfl) (by kernel_rfl) (fun _ _ _ h => h) (Or.inl ⟨by kernel_rfl, fun w' hSw => (by go_simp)⟩) (by assumption) ?_
    try simp only [Act.put, List.getElem_toArray, List.getElem_cons_zero, List.getElem_cons_succ, List.setIfInBounds_toArray, List.set_cons_zero, List.set_cons_succ]
    refine wpAnyH_take (i := 1) (v := (.int .i64 22)) rfl (by kernel_rfl) (by kernel_rfl) (by kernel_rfl) (fun _ _ _ h => h) (Or.inl ⟨by kernel_rfl, fun w' hSw => (by go_simp)⟩) (by assumption) ?_
    try simp only [Act.put, List.getElem_toArray, List.getElem_cons_zero, List.getElem_cons_succ, List.setIfInBounds_toArray, List.set_cons_zero, List.set_cons_succ]
    refine wpAnyH_take (i := 2) (v := (.pointer (some ⟨w.heap.size + 1 + 1, 22, none⟩))) rfl (by kernel_rfl) (by kernel_rfl) (by kernel_rfl) (fun _ _ _ h => h) (Or.inl ⟨by kernel_rfl, fun w' hSw => (by go_simp)⟩) (by assumption) ?_
    try simp only [Act.put, List.getElem_toArray, List.getElem_cons_zero, List.getElem_cons_succ, List.setIfInBounds_toArray, List.set_cons_zero, List.set_cons_succ]
    refine wpAnyH_take (i := 3) (v := (.string ⟨#[54, 53, 53, 51, 53]⟩)) rfl (by kernel_rfl) (by kernel_rfl) (by kernel_rfl) (fun _ _ _ h => h) (Or.inl ⟨by kernel_rfl, fun w' hSw => (by have hc : w'.cell? ⟨w.heap.size + 1 + 1, 22, none⟩ = some (.string ⟨#[54, 53, 53, 51, 53]⟩) := row_cell hSw.2.2; go_simp)⟩) (by assumption) ?_
    try simp only [Act.put, List.getElem_toArray, List.getElem_cons_zero, List.getElem_cons_succ, List.setIfInBounds_toArray, List.set_cons_zero, List.set_cons_succ]
    refine wpAnyH_take (i := 4) (v := (.bool false)) rfl (by kernel_rfl) (by kernel_rfl) (by kernel_rfl) (fun _ _ _ h => h) (Or.inl ⟨by kernel_rfl, fun w' hSw => (by go_simp)⟩) (by assumption) ?_
    try simp only [Act.put, List.getElem_toArray, List.getElem_cons_zero, List.getElem_cons_succ, List.setIfInBounds_toArray, List.set_cons_zero, List.set_cons_succ]
    refine wpAnyH_take (i := 5) (v := (.bool false)) rfl (by kernel_rfl) (by kernel_rfl) (by kernel_rfl) (fun _ _ _ h => h) (Or.inl ⟨by kernel_rfl, fun w' hSw => (by go_simp)⟩) (by assumption) ?_
    try simp only [Act.put, List.getElem_toArray, List.getElem_cons_zero, List.getElem_cons_succ, List.setIfInBounds_toArray, List.set_cons_zero, List.set_cons_succ]
    refine wpAnyH_take (i := 6) (v := (.agg #[.bool n.1, .slice va n.2.1.length vc, .int .i64 n.2.2])) rfl (by kernel_rfl) (by kernel_rfl) (by kernel_rfl) (fun _ _ _ h => h) (yieldsIf_load_mid (by kernel_rfl) 43 _ rfl w.heap.size 0 rfl [.bool n.1, .slice va n.2.1.length vc, .int .i64 n.2.2] _ (fun W hW => rng3 hW.1) Tryz.underlying43 rfl (by kernel_rfl)) (by assumption) ?_
    try simp only [Act.put, List.getElem_toArray, List.getElem_cons_zero, List.getElem_cons_succ, List.setIfInBounds_toArray, List.set_cons_zero, List.set_cons_succ]
    refine wpAnyH_take (i := 7) (v := (.slice (some ⟨w.heap.size + 1 + 1, 0, none⟩) 24 24)) rfl (by kernel_rfl) (by kernel_rfl) (by kernel_rfl) (fun _ _ _ h => h) (Or.inl ⟨by kernel_rfl, fun w' hSw => (by go_simp)⟩) (by assumption) ?_
    try simp only [Act.put, List.getElem_toArray, List.getElem_cons_zero, List.getElem_cons_succ, List.setIfInBounds_toArray, List.set_cons_zero, List.set_cons_succ]
    refine wpAnyH_take (i := 8) (v := (.int .i64 22)) rfl (by kernel_rfl) (by kernel_rfl) (by kernel_rfl) (fun _ _ _ h => h) (Or.inl ⟨by kernel_rfl, fun w' hSw => (by go_simp)⟩) (by assumption) ?_
    try simp only [Act.put, List.getElem_toArray, List.getElem_cons_zero, List.getElem_cons_succ, List.setIfInBounds_toArray, List.set_cons_zero, List.set_cons_succ]
    refine wpAnyH_take (i := 9) (v := (.pointer (some ⟨w.heap.size + 1 + 1, 22, none⟩))) rfl (by kernel_rfl) (by kernel_rfl) (by kernel_rfl) (fun _ _ _ h => h) (Or.inl ⟨by kernel_rfl, fun w' hSw => (by go_simp)⟩) (by assumption) ?_
    try simp only [Act.put, List.getElem_toArray, List.getElem_cons_zero, List.getElem_cons_succ, List.setIfInBounds_toArray, List.set_cons_zero, List.set_cons_succ]
    refine wpAnyH_take (i := 10) (v := (.string ⟨#[54, 53, 53, 51, 53]⟩)) rfl (by kernel_rfl) (by kernel_rfl) (by kernel_rfl) (fun _ _ _ h => h) (Or.inl ⟨by kernel_rfl, fun w' hSw => (by have hc : w'.cell? ⟨w.heap.size + 1 + 1, 22, none⟩ = some (.string ⟨#[54, 53, 53, 51, 53]⟩) := row_cell hSw.2.2; go_simp)⟩) (by assumption) ?_
    try simp only [Act.put, List.getElem_toArray, List.getElem_cons_zero, List.getElem_cons_succ, List.setIfInBounds_toArray, List.set_cons_zero, List.set_cons_succ]
    refine wpAnyH_ready (rs := [11]) (by kernel_rfl) (by simp) ?_
    refine AllReadyH.cons rfl (fun K hK => ?_) AllReadyH.nil
    go_simp
    refine Calls.mono (bound_r (n := (false, [6, 5, 5, 3, 5], 0)) ⟨#[54, 53, 53, 51, 53]⟩ _ (by decide) pb13) ?_
    rintro e w9 ⟨rv, rfl, hb9, hrv⟩
    have hbb := HB.out.trans (hb9.mono HB.out.size)
    have hS9 := HK.out _ hbb
    clear HB hHeld
    have HB : Hid _ := hbb
    have HRV : Hid _ := hrv
    clear hbb hb9 hrv
    go_wp2_with fail
    refine hK.out _ _ hS9 (fun hHeld => ?_)
    clear hK K hS9
    try simp only [Act.put, List.getElem_toArray, List.getElem_cons_zero, List.getElem_cons_succ, List.setIfInBounds_toArray, List.set_cons_zero, List.set_cons_succ]
    refine wpAnyH_ready (rs := [12]) (by kernel_rfl) (by simp) ?_
    refine AllReadyH.cons rfl (fun K hK => ?_) AllReadyH.nil
    go_simp
    have hcr := Dc.cmp_r (HN.out _ HB.out) HRV.out
    refine Calls.mono hcr ?_
    clear hcr
    rintro e w9 ⟨rfl, hb9⟩
    have hbb := HB.out.trans (hb9.mono HB.out.size)
    have hS9 := HK.out _ hbb
    clear HB hHeld
    have HB : Hid _ := hbb
    clear hbb hb9
    rw [HCh]
    go_wp2_with fail
    refine hK.out _ _ hS9 (fun hHeld => ?_)
    clear hK K hS9
    try simp only [Act.put, List.getElem_toArray, List.getElem_cons_zero, List.getElem_cons_succ, List.setIfInBounds_toArray, List.set_cons_zero, List.set_cons_succ]
    refine wpAnyH_take (i := 13) (v := (.bool false)) rfl (by kernel_rfl) (by kernel_rfl) (by kernel_rfl) (fun _ _ _ h => h) (Or.inl ⟨by kernel_rfl, fun w' hSw => (by go_simp)⟩) (by assumption) ?_
    try simp only [Act.put, List.getElem_toArray, List.getElem_cons_zero, List.getElem_cons_succ, List.setIfInBounds_toArray, List.set_cons_zero, List.set_cons_succ]
    refine wpAnyH_take (i := 14) (v := (.bool false)) rfl (by kernel_rfl) (by kernel_rfl) (by kernel_rfl) (fun _ _ _ h => h) (Or.inl ⟨by kernel_rfl, fun w' hSw => (by go_simp)⟩) (by assumption) ?_
    try simp only [Act.put, List.getElem_toArray, List.getElem_cons_zero, List.getElem_cons_succ, List.setIfInBounds_toArray, List.set_cons_zero, List.set_cons_succ]
    refine wpAnyH_take (i := 15) (v := (.bool false)) rfl (by kernel_rfl) (by kernel_rfl) (by kernel_rfl) (fun _ _ _ h => h) (Or.inl ⟨by kernel_rfl, fun w' hSw => (by go_simp)⟩) (by assumption) ?_
    try simp only [Act.put, List.getElem_toArray, List.getElem_cons_zero, List.getElem_cons_succ, List.setIfInBounds_toArray, List.set_cons_zero, List.set_cons_succ]
    refine wpAnyH_done (by kernel_rfl) ?_ _
    go_wp2_with fail
    go_ret
    exact ⟨ret_b HE.out.symm, HU.out.trans (HB.out.mono HU.out.size)⟩
set_option maxRecDepth 100000 in
set_option maxHeartbeats 6400000 in
theorem within_23 {w : World} {v : Value} {n : Dc.Nm} (hn : Dc.NmR w v n) (h0 : n.2.2 = 0) : Calls Tryz.prog 43 #[.int .i64 23, Dc.nmV n.1 v n.2.2] w fun e w' => e = .returned (.bool (wiB 23 (Dc.nv n 0))) ∧ Below w.heap.size w w' := by
  have hl := (cmp_whole hn.cn h0 pb0c rfl).1
  rw [pb0v] at hl
  have hh := (cmp_whole hn.cn h0 pb14c rfl).2
  rw [pb14v] at hh
  have HW : Hid ((Dc.cmpS n (false, [0], 0) < 0 ↔ Dc.nv n 0 < 0) ∧ (Dc.cmpS n (false, [2, 5, 5], 0) ≤ 0 ↔ Dc.nv n 0 ≤ 255)) := ⟨hl, hh⟩
  clear hl hh
  obtain ⟨va, vc, rfl, _⟩ := hn.bt.form
  have hx := M.nw_heap w (.cells #[.bool n.1, .slice va n.2.1.length vc, .int .i64 n.2.2] 43)
  have hb1 : Below w.heap.size w (((w.alloc (.cells #[.bool n.1, .slice va n.2.1.length vc, .int .i64 n.2.2] 43)).alloc (.cells loT 9)).alloc (.cells hiT 9)) := bel3 w _ _ _
  have hS := blocks3 w (.cells #[.bool n.1, .slice va n.2.1.length vc, .int .i64 n.2.2] 43) (.cells loT 9) (.cells hiT 9)
  obtain ⟨U, hU⟩ : ∃ U, ((w.alloc (.cells #[.bool n.1, .slice va n.2.1.length vc, .int .i64 n.2.2] 43)).alloc (.cells loT 9)).alloc (.cells hiT 9) = U := ⟨_, rfl⟩
  rw [hU] at hb1 hS
  have HN : Hid _ := fun W (hW : Below U.heap.size U W) => hn.below (hb1.trans (hW.mono hb1.size))
  have HK : Hid (∀ W, Below U.heap.size U W → _ ∧ _ ∧ _) := fun W hW => And.intro ((hW.block _ (Dc.lt_of hS.1)).trans hS.1) (And.intro ((hW.block _ (Dc.lt_of hS.2.1)).trans hS.2.1) ((hW.block _ (Dc.lt_of hS.2.2)).trans hS.2.2))
  have HU : Hid _ := hb1
  clear hx hb1 hS hn h0
  obtain ⟨c, HCl⟩ : ∃ c, Dc.cmpS n (false, [0], 0) = c := ⟨_, rfl⟩
  obtain ⟨d, HCh⟩ : ∃ d, Dc.cmpS n (false, [2, 5, 5], 0) = d := ⟨_, rfl⟩
  go_enter Tryz.func43, Tryz.ntmps43
  go_upto_region 3 with fail
  try rw [show ((w.alloc (.cells #[.bool n.1, .slice va n.2.1.length vc, .int .i64 n.2.2] 43)).alloc (.cells #[.string ⟨#[]⟩, .string ⟨#[]⟩, .string ⟨#[]⟩, .string ⟨#[]⟩, .string ⟨#[]⟩, .string ⟨#[]⟩, .string ⟨#[]⟩, .string ⟨#[]⟩, .string ⟨#[]⟩, .string ⟨#[]⟩, .string ⟨#[]⟩, .string ⟨#[]⟩, .string ⟨#[]⟩, .string ⟨#[]⟩, .string ⟨#[48]⟩, .string ⟨#[49]⟩, .string ⟨#[45, 57, 50, 50, 51, 51, 55, 50, 48, 51, 54, 56, 53, 52, 55, 55, 53, 56, 48, 56]⟩, .string ⟨#[45, 50, 49, 52, 55, 52, 56, 51, 54, 52, 56]⟩, .string ⟨#[45, 51, 50, 55, 54, 56]⟩, .string ⟨#[45, 49, 50, 56]⟩, .string ⟨#[48]⟩, .string ⟨#[48]⟩, .string ⟨#[48]⟩, .string ⟨#[48]⟩] 9)).alloc (.cells #[.string ⟨#[]⟩, .string ⟨#[]⟩, .string ⟨#[]⟩, .string ⟨#[]⟩, .string ⟨#[]⟩, .string ⟨#[]⟩, .string ⟨#[]⟩, .string ⟨#[]⟩, .string ⟨#[]⟩, .string ⟨#[]⟩, .string ⟨#[]⟩, .string ⟨#[]⟩, .string ⟨#[48]⟩, .string ⟨#[45, 49]⟩, .string ⟨#[]⟩, .string ⟨#[]⟩, .string ⟨#[57, 50, 50, 51, 51, 55, 50, 48, 51, 54, 56, 53, 52, 55, 55, 53, 56, 48, 55]⟩, .string ⟨#[50, 49, 52, 55, 52, 56, 51, 54, 52, 55]⟩, .string ⟨#[51, 50, 55, 54, 55]⟩, .string ⟨#[49, 50, 55]⟩, .string ⟨#[49, 56, 52, 52, 54, 55, 52, 52, 48, 55, 51, 55, 48, 57, 53, 53, 49, 54, 49, 53]⟩, .string ⟨#[52, 50, 57, 52, 57, 54, 55, 50, 57, 53]⟩, .string ⟨#[54, 53, 53, 51, 53]⟩, .string ⟨#[50, 53, 53]⟩] 9) = U from hU]
  clear hU
  have HB : Hid (Below U.heap.size U U.drew) := Dc.Below.drewN' 1
  by_cases hc : c < 0
  · have hcd : decide (c < 0) = true := by simpa using hc
    have HE : Hid (wiB 23 (Dc.nv n 0) = false) := by
      show _ = _
      have := HW.out.1
      rw [HCl] at this
      unfold wiB
      simp
      omega
    clear hc
    refine wp_region_held_drew (S := fun W => W.heap[w.heap.size]? = some (.cells #[.bool n.1, .slice va n.2.1.length vc, .int .i64 n.2.2] 43 (0, 0)) ∧ W.heap[w.heap.size + 1]? = some (.cells loT 9 (0, 0)) ∧ W.heap[w.heap.size + 1 + 1]? = some (.cells hiT 9 (0, 0))) (by kernel_rfl) (HK.out _ HB.out) (fun hHeld => ?_)
    refine wpAnyH_take (i := 0) (v := (.slice (some ⟨w.heap.size + 1, 0, none⟩) 24 24)) rfl (by kernel_rfl) (by kernel_rfl) (by kernel_rfl) (fun _ _ _ h => h) (Or.inl ⟨by kernel_rfl, fun w' hSw => (by go_simp)⟩) (by assumption) ?_
    try simp only [Act.put, List.getElem_toArray, List.getElem_cons_zero, List.getElem_cons_succ, List.setIfInBounds_toArray, List.set_cons_zero, List.set_cons_succ]
    refine wpAnyH_take (i := 1) (v := (.int .i64 23)) rfl (by kernel_rfl) (by kernel_rfl) (by kernel_rfl) (fun _ _ _ h => h) (Or.inl ⟨by kernel_rfl, fun w' hSw => (by go_simp)⟩) (by assumption) ?_
    try simp only [Act.put, List.getElem_toArray, List.getElem_cons_zero, List.getElem_cons_succ, List.setIfInBounds_toArray, List.set_cons_zero, List.set_cons_succ]
    refine wpAnyH_take (i := 2) (v := (.pointer (some ⟨w.heap.size + 1, 23, none⟩))) rfl (by kernel_rfl) (by kernel_rfl) (by kernel_rfl) (fun _ _ _ h => h) (Or.inl ⟨by kernel_rfl, fun w' hSw => (by go_simp)⟩) (by assumption) ?_
    try simp only [Act.put, List.getElem_toArray, List.getElem_cons_zero, List.getElem_cons_succ, List.setIfInBounds_toArray, List.set_cons_zero, List.set_cons_succ]
    refine wpAnyH_take (i := 3) (v := (.string ⟨#[48]⟩)) rfl (by kernel_rfl) (by kernel_rfl) (by kernel_rfl) (fun _ _ _ h => h) (Or.inl ⟨by kernel_rfl, fun w' hSw => (by have hc : w'.cell? ⟨w.heap.size + 1, 23, none⟩ = some (.string ⟨#[48]⟩) := row_cell hSw.2.1; go_simp)⟩) (by assumption) ?_
    try simp only [Act.put, List.getElem_toArray, List.getElem_cons_zero, List.getElem_cons_succ, List.setIfInBounds_toArray, List.set_cons_zero, List.set_cons_succ]
    refine wpAnyH_take (i := 4) (v := (.bool true)) rfl (by kernel_rfl) (by kernel_rfl) (by kernel_rfl) (fun _ _ _ h => h) (Or.inl ⟨by kernel_rfl, fun w' hSw => (by go_simp)⟩) (by assumption) ?_
    try simp only [Act.put, List.getElem_toArray, List.getElem_cons_zero, List.getElem_cons_succ, List.setIfInBounds_toArray, List.set_cons_zero, List.set_cons_succ]
    refine wpAnyH_take (i := 5) (v := (.bool true)) rfl (by kernel_rfl) (by kernel_rfl) (by kernel_rfl) (fun _ _ _ h => h) (Or.inl ⟨by kernel_rfl, fun w' hSw => (by go_simp)⟩) (by assumption) ?_
    try simp only [Act.put, List.getElem_toArray, List.getElem_cons_zero, List.getElem_cons_succ, List.setIfInBounds_toArray, List.set_cons_zero, List.set_cons_succ]
    refine wpAnyH_take (i := 6) (v := (.agg #[.bool n.1, .slice va n.2.1.length vc, .int .i64 n.2.2])) rfl (by kernel_rfl) (by kernel_rfl) (by kernel_rfl) (fun _ _ _ h => h) (yieldsIf_load_mid (by kernel_rfl) 43 _ rfl w.heap.size 0 rfl [.bool n.1, .slice va n.2.1.length vc, .int .i64 n.2.2] _ (fun W hW => rng3 hW.1) Tryz.underlying43 rfl (by kernel_rfl)) (by assumption) ?_
    try simp only [Act.put, List.getElem_toArray, List.getElem_cons_zero, List.getElem_cons_succ, List.setIfInBounds_toArray, List.set_cons_zero, List.set_cons_succ]
    refine wpAnyH_take (i := 7) (v := (.slice (some ⟨w.heap.size + 1, 0, none⟩) 24 24)) rfl (by kernel_rfl) (by kernel_rfl) (by kernel_rfl) (fun _ _ _ h => h) (Or.inl ⟨by kernel_rfl, fun w' hSw => (by go_simp)⟩) (by assumption) ?_
    try simp only [Act.put, List.getElem_toArray, List.getElem_cons_zero, List.getElem_cons_succ, List.setIfInBounds_toArray, List.set_cons_zero, List.set_cons_succ]
    refine wpAnyH_take (i := 8) (v := (.int .i64 23)) rfl (by kernel_rfl) (by kernel_rfl) (by kernel_rfl) (fun _ _ _ h => h) (Or.inl ⟨by kernel_rfl, fun w' hSw => (by go_simp)⟩) (by assumption) ?_
    try simp only [Act.put, List.getElem_toArray, List.getElem_cons_zero, List.getElem_cons_succ, List.setIfInBounds_toArray, List.set_cons_zero, List.set_cons_succ]
    refine wpAnyH_take (i := 9) (v := (.pointer (some ⟨w.heap.size + 1, 23, none⟩))) rfl (by kernel_rfl) (by kernel_rfl) (by kernel_rfl) (fun _ _ _ h => h) (Or.inl ⟨by kernel_rfl, fun w' hSw => (by go_simp)⟩) (by assumption) ?_
    try simp only [Act.put, List.getElem_toArray, List.getElem_cons_zero, List.getElem_cons_succ, List.setIfInBounds_toArray, List.set_cons_zero, List.set_cons_succ]
    refine wpAnyH_take (i := 10) (v := (.string ⟨#[48]⟩)) rfl (by kernel_rfl) (by kernel_rfl) (by kernel_rfl) (fun _ _ _ h => h) (Or.inl ⟨by kernel_rfl, fun w' hSw => (by have hc : w'.cell? ⟨w.heap.size + 1, 23, none⟩ = some (.string ⟨#[48]⟩) := row_cell hSw.2.1; go_simp)⟩) (by assumption) ?_
    try simp only [Act.put, List.getElem_toArray, List.getElem_cons_zero, List.getElem_cons_succ, List.setIfInBounds_toArray, List.set_cons_zero, List.set_cons_succ]
    refine wpAnyH_ready (rs := [11]) (by kernel_rfl) (by simp) ?_
    refine AllReadyH.cons rfl (fun K hK => ?_) AllReadyH.nil
    go_simp
    refine Calls.mono (bound_r (n := (false, [0], 0)) ⟨#[48]⟩ _ (by decide) pb0) ?_
    rintro e w9 ⟨rv, rfl, hb9, hrv⟩
    have hbb := HB.out.trans (hb9.mono HB.out.size)
    have hS9 := HK.out _ hbb
    clear HB hHeld
    have HB : Hid _ := hbb
    have HRV : Hid _ := hrv
    clear hbb hb9 hrv
    go_wp2_with fail
    refine hK.out _ _ hS9 (fun hHeld => ?_)
    clear hK K hS9
    try simp only [Act.put, List.getElem_toArray, List.getElem_cons_zero, List.getElem_cons_succ, List.setIfInBounds_toArray, List.set_cons_zero, List.set_cons_succ]
    refine wpAnyH_ready (rs := [12]) (by kernel_rfl) (by simp) ?_
    refine AllReadyH.cons rfl (fun K hK => ?_) AllReadyH.nil
    go_simp
    have hcr := Dc.cmp_r (HN.out _ HB.out) HRV.out
    refine Calls.mono hcr ?_
    clear hcr
    rintro e w9 ⟨rfl, hb9⟩
    have hbb := HB.out.trans (hb9.mono HB.out.size)
    have hS9 := HK.out _ hbb
    clear HB hHeld
    have HB : Hid _ := hbb
    clear hbb hb9
    rw [HCl]
    go_wp2_with fail
    refine hK.out _ _ hS9 (fun hHeld => ?_)
    clear hK K hS9
    try simp only [Act.put, List.getElem_toArray, List.getElem_cons_zero, List.getElem_cons_succ, List.setIfInBounds_toArray, List.set_cons_zero, List.set_cons_succ]
    refine wpAnyH_take (i := 13) (v := (.bool true)) rfl (by kernel_rfl) (by kernel_rfl) (by kernel_rfl) (fun _ _ _ h => h) (Or.inl ⟨by kernel_rfl, fun w' hSw => (by go_simp)⟩) (by assumption) ?_
    try simp only [Act.put, List.getElem_toArray, List.getElem_cons_zero, List.getElem_cons_succ, List.setIfInBounds_toArray, List.set_cons_zero, List.set_cons_succ]
    refine wpAnyH_take (i := 14) (v := (.bool true)) rfl (by kernel_rfl) (by kernel_rfl) (by kernel_rfl) (fun _ _ _ h => h) (Or.inl ⟨by kernel_rfl, fun w' hSw => (by go_simp)⟩) (by assumption) ?_
    try simp only [Act.put, List.getElem_toArray, List.getElem_cons_zero, List.getElem_cons_succ, List.setIfInBounds_toArray, List.set_cons_zero, List.set_cons_succ]
    refine wpAnyH_done (by kernel_rfl) ?_ _
    clear hHeld
    go_wp2_with fail
    go_ret
    exact ⟨ret_b HE.out.symm, HU.out.trans (HB.out.mono HU.out.size)⟩
  have hcd : decide (c < 0) = false := by simpa using hc
  have HCN : Hid (¬ c < 0) := hc
  clear hc
  refine wp_region_held_drew (S := fun W => W.heap[w.heap.size]? = some (.cells #[.bool n.1, .slice va n.2.1.length vc, .int .i64 n.2.2] 43 (0, 0)) ∧ W.heap[w.heap.size + 1]? = some (.cells loT 9 (0, 0)) ∧ W.heap[w.heap.size + 1 + 1]? = some (.cells hiT 9 (0, 0))) (by kernel_rfl) (HK.out _ HB.out) (fun hHeld => ?_)
  refine wpAnyH_take (i := 0) (v := (.slice (some ⟨w.heap.size + 1, 0, none⟩) 24 24)) rfl (by kernel_rfl) (by kernel_rfl) (by kernel_rfl) (fun _ _ _ h => h) (Or.inl ⟨by kernel_rfl, fun w' hSw => (by go_simp)⟩) (by assumption) ?_
  try simp only [Act.put, List.getElem_toArray, List.getElem_cons_zero, List.getElem_cons_succ, List.setIfInBounds_toArray, List.set_cons_zero, List.set_cons_succ]
  refine wpAnyH_take (i := 1) (v := (.int .i64 23)) rfl (by kernel_rfl) (by kernel_rfl) (by kernel_rfl) (fun _ _ _ h => h) (Or.inl ⟨by kernel_rfl, fun w' hSw => (by go_simp)⟩) (by assumption) ?_
  try simp only [Act.put, List.getElem_toArray, List.getElem_cons_zero, List.getElem_cons_succ, List.setIfInBounds_toArray, List.set_cons_zero, List.set_cons_succ]
  refine wpAnyH_take (i := 2) (v := (.pointer (some ⟨w.heap.size + 1, 23, none⟩))) rfl (by kernel_rfl) (by kernel_rfl) (by kernel_rfl) (fun _ _ _ h => h) (Or.inl ⟨by kernel_rfl, fun w' hSw => (by go_simp)⟩) (by assumption) ?_
  try simp only [Act.put, List.getElem_toArray, List.getElem_cons_zero, List.getElem_cons_succ, List.setIfInBounds_toArray, List.set_cons_zero, List.set_cons_succ]
  refine wpAnyH_take (i := 3) (v := (.string ⟨#[48]⟩)) rfl (by kernel_rfl) (by kernel_rfl) (by kernel_rfl) (fun _ _ _ h => h) (Or.inl ⟨by kernel_rfl, fun w' hSw => (by have hc : w'.cell? ⟨w.heap.size + 1, 23, none⟩ = some (.string ⟨#[48]⟩) := row_cell hSw.2.1; go_simp)⟩) (by assumption) ?_
  try simp only [Act.put, List.getElem_toArray, List.getElem_cons_zero, List.getElem_cons_succ, List.setIfInBounds_toArray, List.set_cons_zero, List.set_cons_succ]
  refine wpAnyH_take (i := 4) (v := (.bool true)) rfl (by kernel_rfl) (by kernel_rfl) (by kernel_rfl) (fun _ _ _ h => h) (Or.inl ⟨by kernel_rfl, fun w' hSw => (by go_simp)⟩) (by assumption) ?_
  try simp only [Act.put, List.getElem_toArray, List.getElem_cons_zero, List.getElem_cons_succ, List.setIfInBounds_toArray, List.set_cons_zero, List.set_cons_succ]
  refine wpAnyH_take (i := 5) (v := (.bool true)) rfl (by kernel_rfl) (by kernel_rfl) (by kernel_rfl) (fun _ _ _ h => h) (Or.inl ⟨by kernel_rfl, fun w' hSw => (by go_simp)⟩) (by assumption) ?_
  try simp only [Act.put, List.getElem_toArray, List.getElem_cons_zero, List.getElem_cons_succ, List.setIfInBounds_toArray, List.set_cons_zero, List.set_cons_succ]
  refine wpAnyH_take (i := 6) (v := (.agg #[.bool n.1, .slice va n.2.1.length vc, .int .i64 n.2.2])) rfl (by kernel_rfl) (by kernel_rfl) (by kernel_rfl) (fun _ _ _ h => h) (yieldsIf_load_mid (by kernel_rfl) 43 _ rfl w.heap.size 0 rfl [.bool n.1, .slice va n.2.1.length vc, .int .i64 n.2.2] _ (fun W hW => rng3 hW.1) Tryz.underlying43 rfl (by kernel_rfl)) (by assumption) ?_
  try simp only [Act.put, List.getElem_toArray, List.getElem_cons_zero, List.getElem_cons_succ, List.setIfInBounds_toArray, List.set_cons_zero, List.set_cons_succ]
  refine wpAnyH_take (i := 7) (v := (.slice (some ⟨w.heap.size + 1, 0, none⟩) 24 24)) rfl (by kernel_rfl) (by kernel_rfl) (by kernel_rfl) (fun _ _ _ h => h) (Or.inl ⟨by kernel_rfl, fun w' hSw => (by go_simp)⟩) (by assumption) ?_
  try simp only [Act.put, List.getElem_toArray, List.getElem_cons_zero, List.getElem_cons_succ, List.setIfInBounds_toArray, List.set_cons_zero, List.set_cons_succ]
  refine wpAnyH_take (i := 8) (v := (.int .i64 23)) rfl (by kernel_rfl) (by kernel_rfl) (by kernel_rfl) (fun _ _ _ h => h) (Or.inl ⟨by kernel_rfl, fun w' hSw => (by go_simp)⟩) (by assumption) ?_
  try simp only [Act.put, List.getElem_toArray, List.getElem_cons_zero, List.getElem_cons_succ, List.setIfInBounds_toArray, List.set_cons_zero, List.set_cons_succ]
  refine wpAnyH_take (i := 9) (v := (.pointer (some ⟨w.heap.size + 1, 23, none⟩))) rfl (by kernel_rfl) (by kernel_rfl) (by kernel_rfl) (fun _ _ _ h => h) (Or.inl ⟨by kernel_rfl, fun w' hSw => (by go_simp)⟩) (by assumption) ?_
  try simp only [Act.put, List.getElem_toArray, List.getElem_cons_zero, List.getElem_cons_succ, List.setIfInBounds_toArray, List.set_cons_zero, List.set_cons_succ]
  refine wpAnyH_take (i := 10) (v := (.string ⟨#[48]⟩)) rfl (by kernel_rfl) (by kernel_rfl) (by kernel_rfl) (fun _ _ _ h => h) (Or.inl ⟨by kernel_rfl, fun w' hSw => (by have hc : w'.cell? ⟨w.heap.size + 1, 23, none⟩ = some (.string ⟨#[48]⟩) := row_cell hSw.2.1; go_simp)⟩) (by assumption) ?_
  try simp only [Act.put, List.getElem_toArray, List.getElem_cons_zero, List.getElem_cons_succ, List.setIfInBounds_toArray, List.set_cons_zero, List.set_cons_succ]
  refine wpAnyH_ready (rs := [11]) (by kernel_rfl) (by simp) ?_
  refine AllReadyH.cons rfl (fun K hK => ?_) AllReadyH.nil
  go_simp
  refine Calls.mono (bound_r (n := (false, [0], 0)) ⟨#[48]⟩ _ (by decide) pb0) ?_
  rintro e w9 ⟨rv, rfl, hb9, hrv⟩
  have hbb := HB.out.trans (hb9.mono HB.out.size)
  have hS9 := HK.out _ hbb
  clear HB hHeld
  have HB : Hid _ := hbb
  have HRV : Hid _ := hrv
  clear hbb hb9 hrv
  go_wp2_with fail
  refine hK.out _ _ hS9 (fun hHeld => ?_)
  clear hK K hS9
  try simp only [Act.put, List.getElem_toArray, List.getElem_cons_zero, List.getElem_cons_succ, List.setIfInBounds_toArray, List.set_cons_zero, List.set_cons_succ]
  refine wpAnyH_ready (rs := [12]) (by kernel_rfl) (by simp) ?_
  refine AllReadyH.cons rfl (fun K hK => ?_) AllReadyH.nil
  go_simp
  have hcr := Dc.cmp_r (HN.out _ HB.out) HRV.out
  refine Calls.mono hcr ?_
  clear hcr
  rintro e w9 ⟨rfl, hb9⟩
  have hbb := HB.out.trans (hb9.mono HB.out.size)
  have hS9 := HK.out _ hbb
  clear HB hHeld
  have HB : Hid _ := hbb
  clear hbb hb9
  rw [HCl]
  go_wp2_with fail
  refine hK.out _ _ hS9 (fun hHeld => ?_)
  clear hK K hS9
  try simp only [Act.put, List.getElem_toArray, List.getElem_cons_zero, List.getElem_cons_succ, List.setIfInBounds_toArray, List.set_cons_zero, List.set_cons_succ]
  refine wpAnyH_take (i := 13) (v := (.bool false)) rfl (by kernel_rfl) (by kernel_rfl) (by kernel_rfl) (fun _ _ _ h => h) (Or.inl ⟨by kernel_rfl, fun w' hSw => (by go_simp)⟩) (by assumption) ?_
  try simp only [Act.put, List.getElem_toArray, List.getElem_cons_zero, List.getElem_cons_succ, List.setIfInBounds_toArray, List.set_cons_zero, List.set_cons_succ]
  refine wpAnyH_take (i := 14) (v := (.bool false)) rfl (by kernel_rfl) (by kernel_rfl) (by kernel_rfl) (fun _ _ _ h => h) (Or.inl ⟨by kernel_rfl, fun w' hSw => (by go_simp)⟩) (by assumption) ?_
  try simp only [Act.put, List.getElem_toArray, List.getElem_cons_zero, List.getElem_cons_succ, List.setIfInBounds_toArray, List.set_cons_zero, List.set_cons_succ]
  refine wpAnyH_done (by kernel_rfl) ?_ _
  clear hHeld HRV
  go_upto_region 5 with fail
  by_cases hd : d ≤ 0
  · have hdd : decide (d ≤ 0) = true := by simpa using hd
    have HE : Hid (wiB 23 (Dc.nv n 0) = true) := by
      show _ = _
      have h2 := HW.out.2
      rw [HCh] at h2
      have h1 := HW.out.1
      rw [HCl] at h1
      have h3 := HCN.out
      unfold wiB
      simp
      omega
    clear hd
    have HB1 : Hid _ := HB.out
    clear HB
    have HB : Hid (Below U.heap.size U w9.drew) := HB1.out.trans ((Dc.Below.drewN' 1).mono HB1.out.size)
    refine wp_region_held_drew (S := fun W => W.heap[w.heap.size]? = some (.cells #[.bool n.1, .slice va n.2.1.length vc, .int .i64 n.2.2] 43 (0, 0)) ∧ W.heap[w.heap.size + 1]? = some (.cells loT 9 (0, 0)) ∧ W.heap[w.heap.size + 1 + 1]? = some (.cells hiT 9 (0, 0))) (by kernel_rfl) (HK.out _ HB.out) (fun hHeld => ?_)
    refine wpAnyH_take (i := 0) (v := (.slice (some ⟨w.heap.size + 1 + 1, 0, none⟩) 24 24)) rfl (by kernel_rfl) (by kernel_rfl) (by kernel_rfl) (fun _ _ _ h => h) (Or.inl ⟨by kernel_rfl, fun w' hSw => (by go_simp)⟩) (by assumption) ?_
    try simp only [Act.put, List.getElem_toArray, List.getElem_cons_zero, List.getElem_cons_succ, List.setIfInBounds_toArray, List.set_cons_zero, List.set_cons_succ]
    refine wpAnyH_take (i := 1) (v := (.int .i64 23)) rfl (by kernel_rfl) (by kernel_rfl) (by kernel_rfl) (fun _ _ _ h => h) (Or.inl ⟨by kernel_rfl, fun w' hSw => (by go_simp)⟩) (by assumption) ?_
    try simp only [Act.put, List.getElem_toArray, List.getElem_cons_zero, List.getElem_cons_succ, List.setIfInBounds_toArray, List.set_cons_zero, List.set_cons_succ]
    refine wpAnyH_take (i := 2) (v := (.pointer (some ⟨w.heap.size + 1 + 1, 23, none⟩))) rfl (by kernel_rfl) (by kernel_rfl) (by kernel_rfl) (fun _ _ _ h => h) (Or.inl ⟨by kernel_rfl, fun w' hSw => (by go_simp)⟩) (by assumption) ?_
    try simp only [Act.put, List.getElem_toArray, List.getElem_cons_zero, List.getElem_cons_succ, List.setIfInBounds_toArray, List.set_cons_zero, List.set_cons_succ]
    refine wpAnyH_take (i := 3) (v := (.string ⟨#[50, 53, 53]⟩)) rfl (by kernel_rfl) (by kernel_rfl) (by kernel_rfl) (fun _ _ _ h => h) (Or.inl ⟨by kernel_rfl, fun w' hSw => (by have hc : w'.cell? ⟨w.heap.size + 1 + 1, 23, none⟩ = some (.string ⟨#[50, 53, 53]⟩) := row_cell hSw.2.2; go_simp)⟩) (by assumption) ?_
    try simp only [Act.put, List.getElem_toArray, List.getElem_cons_zero, List.getElem_cons_succ, List.setIfInBounds_toArray, List.set_cons_zero, List.set_cons_succ]
    refine wpAnyH_take (i := 4) (v := (.bool false)) rfl (by kernel_rfl) (by kernel_rfl) (by kernel_rfl) (fun _ _ _ h => h) (Or.inl ⟨by kernel_rfl, fun w' hSw => (by go_simp)⟩) (by assumption) ?_
    try simp only [Act.put, List.getElem_toArray, List.getElem_cons_zero, List.getElem_cons_succ, List.setIfInBounds_toArray, List.set_cons_zero, List.set_cons_succ]
    refine wpAnyH_take (i := 5) (v := (.bool false)) rfl (by kernel_rfl) (by kernel_rfl) (by kernel_rfl) (fun _ _ _ h => h) (Or.inl ⟨by kernel_rfl, fun w' hSw => (by go_simp)⟩) (by assumption) ?_
    try simp only [Act.put, List.getElem_toArray, List.getElem_cons_zero, List.getElem_cons_succ, List.setIfInBounds_toArray, List.set_cons_zero, List.set_cons_succ]
    refine wpAnyH_take (i := 6) (v := (.agg #[.bool n.1, .slice va n.2.1.length vc, .int .i64 n.2.2])) rfl (by kernel_rfl) (by kernel_rfl) (by kernel_rfl) (fun _ _ _ h => h) (yieldsIf_load_mid (by kernel_rfl) 43 _ rfl w.heap.size 0 rfl [.bool n.1, .slice va n.2.1.length vc, .int .i64 n.2.2] _ (fun W hW => rng3 hW.1) Tryz.underlying43 rfl (by kernel_rfl)) (by assumption) ?_
    try simp only [Act.put, List.getElem_toArray, List.getElem_cons_zero, List.getElem_cons_succ, List.setIfInBounds_toArray, List.set_cons_zero, List.set_cons_succ]
    refine wpAnyH_take (i := 7) (v := (.slice (some ⟨w.heap.size + 1 + 1, 0, none⟩) 24 24)) rfl (by kernel_rfl) (by kernel_rfl) (by kernel_rfl) (fun _ _ _ h => h) (Or.inl ⟨by kernel_rfl, fun w' hSw => (by go_simp)⟩) (by assumption) ?_
    try simp only [Act.put, List.getElem_toArray, List.getElem_cons_zero, List.getElem_cons_succ, List.setIfInBounds_toArray, List.set_cons_zero, List.set_cons_succ]
    refine wpAnyH_take (i := 8) (v := (.int .i64 23)) rfl (by kernel_rfl) (by kernel_rfl) (by kernel_rfl) (fun _ _ _ h => h) (Or.inl ⟨by kernel_rfl, fun w' hSw => (by go_simp)⟩) (by assumption) ?_
    try simp only [Act.put, List.getElem_toArray, List.getElem_cons_zero, List.getElem_cons_succ, List.setIfInBounds_toArray, List.set_cons_zero, List.set_cons_succ]
    refine wpAnyH_take (i := 9) (v := (.pointer (some ⟨w.heap.size + 1 + 1, 23, none⟩))) rfl (by kernel_rfl) (by kernel_rfl) (by kernel_rfl) (fun _ _ _ h => h) (Or.inl ⟨by kernel_rfl, fun w' hSw => (by go_simp)⟩) (by assumption) ?_
    try simp only [Act.put, List.getElem_toArray, List.getElem_cons_zero, List.getElem_cons_succ, List.setIfInBounds_toArray, List.set_cons_zero, List.set_cons_succ]
    refine wpAnyH_take (i := 10) (v := (.string ⟨#[50, 53, 53]⟩)) rfl (by kernel_rfl) (by kernel_rfl) (by kernel_rfl) (fun _ _ _ h => h) (Or.inl ⟨by kernel_rfl, fun w' hSw => (by have hc : w'.cell? ⟨w.heap.size + 1 + 1, 23, none⟩ = some (.string ⟨#[50, 53, 53]⟩) := row_cell hSw.2.2; go_simp)⟩) (by assumption) ?_
    try simp only [Act.put, List.getElem_toArray, List.getElem_cons_zero, List.getElem_cons_succ, List.setIfInBounds_toArray, List.set_cons_zero, List.set_cons_succ]
    refine wpAnyH_ready (rs := [11]) (by kernel_rfl) (by simp) ?_
    refine AllReadyH.cons rfl (fun K hK => ?_) AllReadyH.nil
    go_simp
    refine Calls.mono (bound_r (n := (false, [2, 5, 5], 0)) ⟨#[50, 53, 53]⟩ _ (by decide) pb14) ?_
    rintro e w9 ⟨rv, rfl, hb9, hrv⟩
    have hbb := HB.out.trans (hb9.mono HB.out.size)
    have hS9 := HK.out _ hbb
    clear HB hHeld
    have HB : Hid _ := hbb
    have HRV : Hid _ := hrv
    clear hbb hb9 hrv
    go_wp2_with fail
    refine hK.out _ _ hS9 (fun hHeld => ?_)
    clear hK K hS9
    try simp only [Act.put, List.getElem_toArray, List.getElem_cons_zero, List.getElem_cons_succ, List.setIfInBounds_toArray, List.set_cons_zero, List.set_cons_succ]
    refine wpAnyH_ready (rs := [12]) (by kernel_rfl) (by simp) ?_
    refine AllReadyH.cons rfl (fun K hK => ?_) AllReadyH.nil
    go_simp
    have hcr := Dc.cmp_r (HN.out _ HB.out) HRV.out
    refine Calls.mono hcr ?_
    clear hcr
    rintro e w9 ⟨rfl, hb9⟩
    have hbb := HB.out.trans (hb9.mono HB.out.size)
    have hS9 := HK.out _ hbb
    clear HB hHeld
    have HB : Hid _ := hbb
    clear hbb hb9
    rw [HCh]
    go_wp2_with fail
    refine hK.out _ _ hS9 (fun hHeld => ?_)
    clear hK K hS9
    try simp only [Act.put, List.getElem_toArray, List.getElem_cons_zero, List.getElem_cons_succ, List.setIfInBounds_toArray, List.set_cons_zero, List.set_cons_succ]
    refine wpAnyH_take (i := 13) (v := (.bool true)) rfl (by kernel_rfl) (by kernel_rfl) (by kernel_rfl) (fun _ _ _ h => h) (Or.inl ⟨by kernel_rfl, fun w' hSw => (by go_simp)⟩) (by assumption) ?_
    try simp only [Act.put, List.getElem_toArray, List.getElem_cons_zero, List.getElem_cons_succ, List.setIfInBounds_toArray, List.set_cons_zero, List.set_cons_succ]
    refine wpAnyH_take (i := 14) (v := (.bool true)) rfl (by kernel_rfl) (by kernel_rfl) (by kernel_rfl) (fun _ _ _ h => h) (Or.inl ⟨by kernel_rfl, fun w' hSw => (by go_simp)⟩) (by assumption) ?_
    try simp only [Act.put, List.getElem_toArray, List.getElem_cons_zero, List.getElem_cons_succ, List.setIfInBounds_toArray, List.set_cons_zero, List.set_cons_succ]
    refine wpAnyH_take (i := 15) (v := (.bool true)) rfl (by kernel_rfl) (by kernel_rfl) (by kernel_rfl) (fun _ _ _ h => h) (Or.inl ⟨by kernel_rfl, fun w' hSw => (by go_simp)⟩) (by assumption) ?_
    try simp only [Act.put, List.getElem_toArray, List.getElem_cons_zero, List.getElem_cons_succ, List.setIfInBounds_toArray, List.set_cons_zero, List.set_cons_succ]
    refine wpAnyH_done (by kernel_rfl) ?_ _
    go_wp2_with fail
    go_ret
    exact ⟨ret_b HE.out.symm, HU.out.trans (HB.out.mono HU.out.size)⟩
  · have hdd : decide (d ≤ 0) = false := by simpa using hd
    have HE : Hid (wiB 23 (Dc.nv n 0) = false) := by
      show _ = _
      have h2 := HW.out.2
      rw [HCh] at h2
      have h1 := HW.out.1
      rw [HCl] at h1
      have h3 := HCN.out
      unfold wiB
      simp
      omega
    clear hd
    have HB1 : Hid _ := HB.out
    clear HB
    have HB : Hid (Below U.heap.size U w9.drew) := HB1.out.trans ((Dc.Below.drewN' 1).mono HB1.out.size)
    refine wp_region_held_drew (S := fun W => W.heap[w.heap.size]? = some (.cells #[.bool n.1, .slice va n.2.1.length vc, .int .i64 n.2.2] 43 (0, 0)) ∧ W.heap[w.heap.size + 1]? = some (.cells loT 9 (0, 0)) ∧ W.heap[w.heap.size + 1 + 1]? = some (.cells hiT 9 (0, 0))) (by kernel_rfl) (HK.out _ HB.out) (fun hHeld => ?_)
    refine wpAnyH_take (i := 0) (v := (.slice (some ⟨w.heap.size + 1 + 1, 0, none⟩) 24 24)) rfl (by kernel_rfl) (by kernel_rfl) (by kernel_rfl) (fun _ _ _ h => h) (Or.inl ⟨by kernel_rfl, fun w' hSw => (by go_simp)⟩) (by assumption) ?_
    try simp only [Act.put, List.getElem_toArray, List.getElem_cons_zero, List.getElem_cons_succ, List.setIfInBounds_toArray, List.set_cons_zero, List.set_cons_succ]
    refine wpAnyH_take (i := 1) (v := (.int .i64 23)) rfl (by kernel_rfl) (by kernel_rfl) (by kernel_rfl) (fun _ _ _ h => h) (Or.inl ⟨by kernel_rfl, fun w' hSw => (by go_simp)⟩) (by assumption) ?_
    try simp only [Act.put, List.getElem_toArray, List.getElem_cons_zero, List.getElem_cons_succ, List.setIfInBounds_toArray, List.set_cons_zero, List.set_cons_succ]
    refine wpAnyH_take (i := 2) (v := (.pointer (some ⟨w.heap.size + 1 + 1, 23, none⟩))) rfl (by kernel_rfl) (by kernel_rfl) (by kernel_rfl) (fun _ _ _ h => h) (Or.inl ⟨by kernel_rfl, fun w' hSw => (by go_simp)⟩) (by assumption) ?_
    try simp only [Act.put, List.getElem_toArray, List.getElem_cons_zero, List.getElem_cons_succ, List.setIfInBounds_toArray, List.set_cons_zero, List.set_cons_succ]
    refine wpAnyH_take (i := 3) (v := (.string ⟨#[50, 53, 53]⟩)) rfl (by kernel_rfl) (by kernel_rfl) (by kernel_rfl) (fun _ _ _ h => h) (Or.inl ⟨by kernel_rfl, fun w' hSw => (by have hc : w'.cell? ⟨w.heap.size + 1 + 1, 23, none⟩ = some (.string ⟨#[50, 53, 53]⟩) := row_cell hSw.2.2; go_simp)⟩) (by assumption) ?_
    try simp only [Act.put, List.getElem_toArray, List.getElem_cons_zero, List.getElem_cons_succ, List.setIfInBounds_toArray, List.set_cons_zero, List.set_cons_succ]
    refine wpAnyH_take (i := 4) (v := (.bool false)) rfl (by kernel_rfl) (by kernel_rfl) (by kernel_rfl) (fun _ _ _ h => h) (Or.inl ⟨by kernel_rfl, fun w' hSw => (by go_simp)⟩) (by assumption) ?_
    try simp only [Act.put, List.getElem_toArray, List.getElem_cons_zero, List.getElem_cons_succ, List.setIfInBounds_toArray, List.set_cons_zero, List.set_cons_succ]
    refine wpAnyH_take (i := 5) (v := (.bool false)) rfl (by kernel_rfl) (by kernel_rfl) (by kernel_rfl) (fun _ _ _ h => h) (Or.inl ⟨by kernel_rfl, fun w' hSw => (by go_simp)⟩) (by assumption) ?_
    try simp only [Act.put, List.getElem_toArray, List.getElem_cons_zero, List.getElem_cons_succ, List.setIfInBounds_toArray, List.set_cons_zero, List.set_cons_succ]
    refine wpAnyH_take (i := 6) (v := (.agg #[.bool n.1, .slice va n.2.1.length vc, .int .i64 n.2.2])) rfl (by kernel_rfl) (by kernel_rfl) (by kernel_rfl) (fun _ _ _ h => h) (yieldsIf_load_mid (by kernel_rfl) 43 _ rfl w.heap.size 0 rfl [.bool n.1, .slice va n.2.1.length vc, .int .i64 n.2.2] _ (fun W hW => rng3 hW.1) Tryz.underlying43 rfl (by kernel_rfl)) (by assumption) ?_
    try simp only [Act.put, List.getElem_toArray, List.getElem_cons_zero, List.getElem_cons_succ, List.setIfInBounds_toArray, List.set_cons_zero, List.set_cons_succ]
    refine wpAnyH_take (i := 7) (v := (.slice (some ⟨w.heap.size + 1 + 1, 0, none⟩) 24 24)) rfl (by kernel_rfl) (by kernel_rfl) (by kernel_rfl) (fun _ _ _ h => h) (Or.inl ⟨by kernel_rfl, fun w' hSw => (by go_simp)⟩) (by assumption) ?_
    try simp only [Act.put, List.getElem_toArray, List.getElem_cons_zero, List.getElem_cons_succ, List.setIfInBounds_toArray, List.set_cons_zero, List.set_cons_succ]
    refine wpAnyH_take (i := 8) (v := (.int .i64 23)) rfl (by kernel_rfl) (by kernel_rfl) (by kernel_rfl) (fun _ _ _ h => h) (Or.inl ⟨by kernel_rfl, fun w' hSw => (by go_simp)⟩) (by assumption) ?_
    try simp only [Act.put, List.getElem_toArray, List.getElem_cons_zero, List.getElem_cons_succ, List.setIfInBounds_toArray, List.set_cons_zero, List.set_cons_succ]
    refine wpAnyH_take (i := 9) (v := (.pointer (some ⟨w.heap.size + 1 + 1, 23, none⟩))) rfl (by kernel_rfl) (by kernel_rfl) (by kernel_rfl) (fun _ _ _ h => h) (Or.inl ⟨by kernel_rfl, fun w' hSw => (by go_simp)⟩) (by assumption) ?_
    try simp only [Act.put, List.getElem_toArray, List.getElem_cons_zero, List.getElem_cons_succ, List.setIfInBounds_toArray, List.set_cons_zero, List.set_cons_succ]
    refine wpAnyH_take (i := 10) (v := (.string ⟨#[50, 53, 53]⟩)) rfl (by kernel_rfl) (by kernel_rfl) (by kernel_rfl) (fun _ _ _ h => h) (Or.inl ⟨by kernel_rfl, fun w' hSw => (by have hc : w'.cell? ⟨w.heap.size + 1 + 1, 23, none⟩ = some (.string ⟨#[50, 53, 53]⟩) := row_cell hSw.2.2; go_simp)⟩) (by assumption) ?_
    try simp only [Act.put, List.getElem_toArray, List.getElem_cons_zero, List.getElem_cons_succ, List.setIfInBounds_toArray, List.set_cons_zero, List.set_cons_succ]
    refine wpAnyH_ready (rs := [11]) (by kernel_rfl) (by simp) ?_
    refine AllReadyH.cons rfl (fun K hK => ?_) AllReadyH.nil
    go_simp
    refine Calls.mono (bound_r (n := (false, [2, 5, 5], 0)) ⟨#[50, 53, 53]⟩ _ (by decide) pb14) ?_
    rintro e w9 ⟨rv, rfl, hb9, hrv⟩
    have hbb := HB.out.trans (hb9.mono HB.out.size)
    have hS9 := HK.out _ hbb
    clear HB hHeld
    have HB : Hid _ := hbb
    have HRV : Hid _ := hrv
    clear hbb hb9 hrv
    go_wp2_with fail
    refine hK.out _ _ hS9 (fun hHeld => ?_)
    clear hK K hS9
    try simp only [Act.put, List.getElem_toArray, List.getElem_cons_zero, List.getElem_cons_succ, List.setIfInBounds_toArray, List.set_cons_zero, List.set_cons_succ]
    refine wpAnyH_ready (rs := [12]) (by kernel_rfl) (by simp) ?_
    refine AllReadyH.cons rfl (fun K hK => ?_) AllReadyH.nil
    go_simp
    have hcr := Dc.cmp_r (HN.out _ HB.out) HRV.out
    refine Calls.mono hcr ?_
    clear hcr
    rintro e w9 ⟨rfl, hb9⟩
    have hbb := HB.out.trans (hb9.mono HB.out.size)
    have hS9 := HK.out _ hbb
    clear HB hHeld
    have HB : Hid _ := hbb
    clear hbb hb9
    rw [HCh]
    go_wp2_with fail
    refine hK.out _ _ hS9 (fun hHeld => ?_)
    clear hK K hS9
    try simp only [Act.put, List.getElem_toArray, List.getElem_cons_zero, List.getElem_cons_succ, List.setIfInBounds_toArray, List.set_cons_zero, List.set_cons_succ]
    refine wpAnyH_take (i := 13) (v := (.bool false)) rfl (by kernel_rfl) (by kernel_rfl) (by kernel_rfl) (fun _ _ _ h => h) (Or.inl ⟨by kernel_rfl, fun w' hSw => (by go_simp)⟩) (by assumption) ?_
    try simp only [Act.put, List.getElem_toArray, List.getElem_cons_zero, List.getElem_cons_succ, List.setIfInBounds_toArray, List.set_cons_zero, List.set_cons_succ]
    refine wpAnyH_take (i := 14) (v := (.bool false)) rfl (by kernel_rfl) (by kernel_rfl) (by kernel_rfl) (fun _ _ _ h => h) (Or.inl ⟨by kernel_rfl, fun w' hSw => (by go_simp)⟩) (by assumption) ?_
    try simp only [Act.put, List.getElem_toArray, List.getElem_cons_zero, List.getElem_cons_succ, List.setIfInBounds_toArray, List.set_cons_zero, List.set_cons_succ]
    refine wpAnyH_take (i := 15) (v := (.bool false)) rfl (by kernel_rfl) (by kernel_rfl) (by kernel_rfl) (fun _ _ _ h => h) (Or.inl ⟨by kernel_rfl, fun w' hSw => (by go_simp)⟩) (by assumption) ?_
    try simp only [Act.put, List.getElem_toArray, List.getElem_cons_zero, List.getElem_cons_succ, List.setIfInBounds_toArray, List.set_cons_zero, List.set_cons_succ]
    refine wpAnyH_done (by kernel_rfl) ?_ _
    go_wp2_with fail
    go_ret
    exact ⟨ret_b HE.out.symm, HU.out.trans (HB.out.mono HU.out.size)⟩
theorem within_r {w : World} {v : Value} {n : Dc.Nm} (k : Int) (k0 : 11 ≤ k) (k1 : k ≤ 23) (hn : Dc.NmR w v n) (h0 : n.2.2 = 0) : Calls Tryz.prog 43 #[.int .i64 k, Dc.nmV n.1 v n.2.2] w fun e w' => e = .returned (.bool (wiB k (Dc.nv n 0))) ∧ Below w.heap.size w w' := by
  rcases (by omega : k = 11 ∨ k = 12 ∨ k = 13 ∨ k = 14 ∨ k = 15 ∨ k = 16 ∨ k = 17 ∨ k = 18 ∨ k = 19 ∨ k = 20 ∨ k = 21 ∨ k = 22 ∨ k = 23) with rfl | rfl | rfl | rfl | rfl | rfl | rfl | rfl | rfl | rfl | rfl | rfl | rfl
  · exact within_11 hn h0
  · exact within_12 hn h0
  · exact within_13 hn h0
  · exact within_14 hn h0
  · exact within_15 hn h0
  · exact within_16 hn h0
  · exact within_17 hn h0
  · exact within_18 hn h0
  · exact within_19 hn h0
  · exact within_20 hn h0
  · exact within_21 hn h0
  · exact within_22 hn h0
  · exact within_23 hn h0
end Go.Proofs.YtgaegajcejpmdaaGreatDoor
