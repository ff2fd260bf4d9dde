/- The stack of open names: push, pop, top. -/
import Derived.Test.YtjcgnbmpnaapdaaDoorAtt
namespace Go.Proofs.YtjcgnbmpnaapdaaDoor
open Go.RowKit
set_option linter.unusedVariables false

abbrev nmCells (l : List Bs) : List Value := l.map fun s => .string (sb s)
/-- A row of names of its own. -/
abbrev NR (B : Nat) (w : World) (v : Value) (l : List Bs) : Prop := w.ownsRow B 9 1 v l.length (nmCells l)
theorem info9 : (Tryd.prog.info? 9).map (fun i => (i.zero, i.size, i.bytes)) = some (some (.string ⟨#[]⟩), 1, 16) := by kernel_rfl
theorem info9p : ∃ i, Tryd.prog.info? 9 = some i ∧ i.zero = some (.string ⟨#[]⟩) ∧ i.size = 1 ∧ i.bytes = 16 := by
  have := info9
  cases h : Tryd.prog.info? 9 with
  | none => rw [h] at this; simp at this
  | some i => rw [h] at this; simp at this; exact ⟨i, rfl, this.1, this.2.1, this.2.2⟩

set_option maxRecDepth 20000 in
set_option maxHeartbeats 800000 in
theorem push_any {B O f : Nat} {ov : Value} {nm : Bs} {ns : List Bs} {w : World} (hc : w.cell? ⟨O, f, none⟩ = some ov) (hf : w.frozen? ⟨O, f, none⟩ = false) (hown : NR B w ov ns) (hB : B ≤ w.heap.size) (hl : ns.length ≤ 65536) (hO : ov.ownBlock ≠ some O) :
    Calls Tryd.prog 75 #[.pointer (some ⟨O, f, none⟩), .string (sb nm)] w fun e w' => e = .returned (.tuple #[]) ∧ ∃ ov' w3, w.grownBy w3 ov.ownBlock ∧ NR B w3 ov' (ns ++ [nm]) ∧ ov' ≠ .slice none 0 0 ∧ (∀ k, ov'.ownBlock = some k → ov.ownBlock = some k ∨ w.heap.size ≤ k) ∧ w' = w3.setCell ⟨O, f, none⟩ ov' := by
  obtain ⟨i0, hi, hz0, hz1, hz2⟩ := info9p
  have hlt : O < w.heap.size := World.block_lt_of_cell? w _ hc
  have HO : Hid _ := hown
  have HL : Hid _ := hlt
  clear hown hlt
  go_enter Tryd.func75, Tryd.ntmps75
  go_wp2_with (first | (at_builtin; refine wpList_append_lies _ rfl (.tmp 7) (.tmp 9) 75 rfl B 9 i0 (.string ⟨#[]⟩) 1 16 Tryd.underlying75 hi hz0 hz1 hz2 rfl (by decide) ov ns.length (nmCells ns) rfl (World.ownsRow.alloc HO.out _) ⟨w.heap.size, 0, none⟩ 1 1 [.string (sb nm)] rfl rfl (cell_one_new _ _ _) (by intro u hu; simp at hu; subst hu; rfl) (by decide) (by unfold maxLen; omega) (by omega) (by simp; omega) _ rfl ?_; intro g cap w3 hown3 hg3 hat hlt3; have hg3' := grownBy_trans (World.grownBy_alloc w (.cells #[.string (sb nm)] 9) _) hg3; have hc3 := far_cell hg3' hc hO; have hf3 := far_froz hg3' hc hf hO; have HW3 : Hid _ := hown3; clear hown3))
  go_end0
  exact ⟨rfl, _, w3, hg3', by show World.ownsRow _ _ _ _ _ _ _; rw [nmCells, List.map_append, List.length_append]; exact HW3.out, by simp, (by intro k hk; simp [Value.ownBlock] at hk; subst hk; rcases hat with e | e; exact .inl e; exact .inr (by rw [e]; simp)), rfl⟩

theorem NR.form {B : Nat} {w : World} {v : Value} {l : List Bs} (h : NR B w v l) (hl : 0 < l.length) : ∃ g cap, v = .slice (some ⟨g, 0, none⟩) l.length cap ∧ l.length ≤ cap ∧ cap ≤ maxLen ∧ g < w.heap.size ∧
    w.cell? ⟨g, l.length - 1, none⟩ = some (.string (sb (l.getLastD []))) := by
  rcases h.2 with ⟨rfl, h0⟩ | ⟨g, cap, cur, rfl, hbg, hg, hnc, hcm, hcs, htake⟩
  · omega
  · refine ⟨g, cap, rfl, hnc, hcm, (Array.getElem?_eq_some_iff.1 hg).1, ?_⟩
    have hx : (nmCells l)[l.length - 1]? = some (.string (sb (l.getLastD []))) := by
      rw [List.getElem?_map]
      cases l with
      | nil => simp at hl
      | cons a t =>
        rw [← List.getLast?_eq_getElem?]
        simp [List.getLast?_cons]
    have := World.ownsRow.cells h (g := g) rfl (l.length - 1) _ hx
    rw [addr_add, Nat.zero_add] at this
    exact this
theorem top_any {B : Nat} {v : Value} {l : List Bs} {w : World} (h : NR B w v l) (hl : 0 < l.length) (hm : l.length ≤ 65536) : Calls Tryd.prog 80 #[v] w fun e w' => e = .returned (.string (sb (l.getLastD []))) ∧ w' = w := by
  obtain ⟨g, cap, rfl, hc, hm2, hg, hcell⟩ := NR.form h hl
  have e : ((l.length - 1 : Nat) : Int) = (l.length : Int) - 1 := by omega
  unfold maxLen at hm2
  generalize l.getLastD [] = x at *
  have HH : Hid _ := h
  clear h
  go_enter Tryd.func80, Tryd.ntmps80
  go_wp2
  go_ret
  exact ⟨rfl, rfl⟩

theorem NR.pop {B : Nat} {w : World} {g cap : Nat} {l : List Bs} (h : NR B w (.slice (some ⟨g, 0, none⟩) l.length cap) l) (hl : 0 < l.length) : NR B w (.slice (some ⟨g, 0, none⟩) (l.length - 1) cap) l.dropLast := by
  refine ⟨by simp, .inr ?_⟩
  rcases h.2 with ⟨h0, _⟩ | ⟨g', cap', cur, he, hbg, hg, hnc, hcm, hcs, htake⟩
  · cases h0
  · simp at he
    obtain ⟨rfl, rfl⟩ := he
    refine ⟨g, cap, cur, by simp, hbg, hg, by simp; omega, hcm, hcs, ?_⟩
    have e : nmCells l.dropLast = (nmCells l).take (l.length - 1) := by
      rw [List.dropLast_eq_take, nmCells, nmCells, List.map_take]
    rw [e, ← htake, List.take_take]
    congr 1
    simp
set_option maxHeartbeats 800000 in
theorem pop_any {B O f : Nat} {v : Value} {l : List Bs} {w : World} (hc : w.cell? ⟨O, f, none⟩ = some v) (hf : w.frozen? ⟨O, f, none⟩ = false) (h : NR B w v l) (hl : 0 < l.length) (hm : l.length ≤ 65536) :
    Calls Tryd.prog 82 #[.pointer (some ⟨O, f, none⟩)] w fun e w' => e = .returned (.tuple #[]) ∧ ∃ v' m, NR B w v' l.dropLast ∧ v'.ownBlock = v.ownBlock ∧ w' = (w.drewN m).setCell ⟨O, f, none⟩ v' := by
  obtain ⟨g, cap, rfl, hcc, hm2, hg, hcell⟩ := NR.form h hl
  have hp := NR.pop h hl
  have e : ((l.length - 1 : Nat) : Int) = (l.length : Int) - 1 := by omega
  unfold maxLen at hm2
  have HH : Hid _ := h
  have HP : Hid _ := hp
  clear h hp hcell
  go_enter Tryd.func82, Tryd.ntmps82
  go_wp2
  go_region
  go_wp2
  go_end0
  exact ⟨rfl, _, 1, HP.out, rfl, rfl⟩
end Go.Proofs.YtjcgnbmpnaapdaaDoor
