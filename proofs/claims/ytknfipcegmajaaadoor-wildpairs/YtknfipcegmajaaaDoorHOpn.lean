/- A wildcard that came in. -/
import Derived.Test.YtknfipcegmajaaaDoorHM1
import Derived.Test.YtknfipcegmajaaaDoorChecked
import Derived.Lib.SmallJoins
import Derived.SliceStrings
import Derived.ProofKit
import Derived.OpenShut
import Derived.WideShapes
namespace Go.Proofs.YtknfipcegmajaaaDoor
open Go.RowKit Go.ChangeShapes Go.WideShapes
set_option linter.unusedVariables false

theorem isz (s : ByteArray) : (tx s).length = s.size := by
  show s.data.toList.length = s.data.size
  exact Array.length_toList
/-- A row of strings that came in. -/
theorem row_txr {w : World} {x : Addr} {len cap : Nat} {ss : List ByteArray} (hl : len ≤ cap) (hz : ss.length = cap) (hcell : ∀ i, i < ss.length → w.cell? (x.add i) = some (.string (ss.getD i ByteArray.empty))) : TxR w (.slice (some x) len cap) ((ss.take len).map tx) := by
  have hlen : ((ss.take len).map tx).length = len := by simp; omega
  refine ⟨some x, cap, by rw [hlen], by omega, ?_⟩
  by_cases h0 : len = 0
  · subst h0; exact .inl (by simp)
  · obtain ⟨b, o, spot⟩ := x
    have hc := hcell 0 (by omega)
    have hspot : spot = none := by simpa [Addr.add] using World.cell?_spot hc
    subst hspot
    have hblk : b < w.heap.size := by
      have := World.block_lt_of_cell? w _ hc
      simpa [Addr.add] using this
    refine .inr ⟨b, o, rfl, hblk, fun i hi => ?_⟩
    have hi' : i < len := by omega
    have := hcell i (by omega)
    rw [addr_off] at this
    rw [this]
    simp only [List.getElem_map, List.getElem_take]
    rw [List.getD_eq_getElem?_getD, List.getElem?_eq_getElem (show i < ss.length by omega)]
    rfl
set_option maxRecDepth 100000 in
theorem open_wild {H : Type} {enc : TypeId × Value → H} {W : World} {r : Reach} {base fuel : Nat} {v : Value} {x : DataW H × List MemPlace} (hv : Value.okWide Tryd.prog W r base 25 v) (h : DataW.trod enc Tryd.prog W 0 (fun _ => true) true fuel 25 v.cells.toList = some x) :
    ∃ A : Wd, WdV W v A ∧ A.sp.length ≤ maxLen ∧ (∀ y ∈ A.sp, y.length ≤ maxLen) ∧ A.nt.length ≤ maxLen := by
  obtain ⟨cs, rfl, hcs⟩ := okWide_struct Tryd.underlying25 hv
  have hc4 : Tryd.prog.cellsOf 25 = 4 := by kernel_rfl
  rw [hc4] at hcs
  obtain ⟨c0, c1, c2, c3, rfl⟩ := Go.Joins.array4 hcs
  obtain ⟨y0, y1, y2, y3, n, _, _, h0, h1, h2, h3⟩ := Go.Joins.trod_struct4 Tryd.underlying25 h
  have k3 : Tryd.prog.cellsOf 3 = 1 := by kernel_rfl
  have k9 : Tryd.prog.cellsOf 9 = 1 := by kernel_rfl
  have k23 : Tryd.prog.cellsOf 23 = 1 := by kernel_rfl
  simp [Value.cells, k3, k9, k23] at h0 h1 h2 h3
  obtain ⟨how, e0, _, _⟩ := DataW.trod_int Tryd.underlying3 h0
  obtain ⟨nt, e1, _, hnt⟩ := DataW.trod_string Tryd.underlying9 h1
  obtain ⟨pr, e3, _, _⟩ := DataW.trod_int Tryd.underlying3 h3
  simp at e0 e1 e3
  subst e0; subst e1; subst e3
  rcases open_strings Tryd.underlying23 Tryd.underlying9 k9 h2 with ⟨e2, _⟩ | ⟨a, len, cap, ss, e2, _, hl, hm, hz, _, hcell, hsz⟩
  · simp at e2
    subst e2
    exact ⟨⟨how, tx nt, [], pr⟩, ⟨_, rfl, TxR.nil _ _ _⟩, Nat.zero_le _, fun y hy => by simp at hy, by show (tx nt).length ≤ maxLen; rw [isz]; exact hnt⟩
  · simp at e2
    subst e2
    have hz' : ss.length = cap := by simpa using hz
    refine ⟨⟨how, tx nt, (ss.take len).map tx, pr⟩, ⟨_, rfl, row_txr hl hz' hcell⟩, ?_, fun y hy => ?_, by show (tx nt).length ≤ maxLen; rw [isz]; exact hnt⟩
    · show ((ss.take len).map tx).length ≤ maxLen
      simp
      omega
    · have hy' : y ∈ (ss.take len).map tx := hy
      obtain ⟨s, hs, rfl⟩ := List.mem_map.1 hy'
      rw [isz]
      exact hsz s (List.mem_of_mem_take hs)
end Go.Proofs.YtknfipcegmajaaaDoor
