/- Bytes made a text; blanks put together: the contracts of collapse, replace and Space. -/
import Derived.Test.YtjcgnbmpnaapdaaDoorTok
namespace Go.Proofs.YtjcgnbmpnaapdaaDoor
open Go.RowKit
set_option linter.unusedVariables false

def sb (l : List Int) : ByteArray := ⟨(l.map fun n => UInt8.ofNat n.toNat).toArray⟩
theorem push_fold (l : List Int) (s : ByteArray) : l.foldl (fun r n => r.push (UInt8.ofNat n.toNat)) s = ⟨s.data ++ (l.map fun n => UInt8.ofNat n.toNat).toArray⟩ := by
  induction l generalizing s with
  | nil => simp
  | cons a l ih =>
    rw [List.foldl_cons, ih]
    simp [ByteArray.push]
theorem bl_sb (l : List Int) (h : ∀ i, 0 ≤ l.getD i 0 ∧ l.getD i 0 < 256) : bl (sb l) = l := by
  unfold bl sb
  rw [List.map_map]
  refine List.ext_getElem (by simp) fun i h1 h2 => ?_
  have := h i
  rw [List.getD_eq_getElem?_getD, List.getElem?_eq_getElem h2] at this
  simp at this ⊢
  omega
theorem sb_bl (s : ByteArray) : sb (bl s) = s := by
  unfold bl sb
  rw [List.map_map]
  have : (fun n : Int => UInt8.ofNat n.toNat) ∘ (fun c : UInt8 => (c.toNat : Int)) = id := by
    funext c; simp
  rw [this, List.map_id]
theorem addr_add (b o j : Nat) : (⟨b, o, none⟩ : Addr).add j = ⟨b, o + j, none⟩ := by
  by_cases h : j = 0 <;> simp [Addr.add, h]
theorem conv_string (b o cap : Nat) (l : List Int) (w : World) (h : ∀ i, i < l.length → w.cell? ⟨b, o + i, none⟩ = some (.int .u8 (l.getD i 0))) :
    (convert 25 9 (.slice (some ⟨b, o, none⟩) l.length cap)).run Tryd.prog w = .ok (.string (sb l)) w := by
  rw [run_convert_bytes_string w 25 9 5 _ _ _ Tryd.underlying25 Tryd.underlying5 Tryd.underlying9]
  have hl := run_loadCells_list (P := Tryd.prog) (w := w) ⟨b, o, none⟩ (l.map (Value.int .u8)) (fun j v hj => by
    rw [List.getElem?_map] at hj
    have hjl : j < l.length := by
      rcases Nat.lt_or_ge j l.length with h | h
      · exact h
      · rw [List.getElem?_eq_none h] at hj; simp at hj
    have := h j hjl
    rw [List.getD_eq_getElem?_getD, List.getElem?_eq_getElem hjl] at this
    rw [List.getElem?_eq_getElem hjl] at hj
    simp at hj
    rw [← hj]
    rw [addr_add]
    simpa using this)
  rw [List.length_map] at hl
  rw [run_bytesToString w ⟨b, o, none⟩ l.length cap l hl, push_fold]
  have e : ByteArray.empty.data = #[] := rfl
  rw [e, Array.empty_append]
  rfl
theorem conv_nil (w : World) : (convert 25 9 (.slice none 0 0)).run Tryd.prog w = .ok (.string ⟨#[]⟩) w := by
  rw [run_convert_bytes_string w 25 9 5 _ _ _ Tryd.underlying25 Tryd.underlying5 Tryd.underlying9]
  rfl

def col : List Int → List Int → Bool → List Int
  | [], out, _ => out
  | c :: l, out, gap => if isWhite c = true then col l out true else if gap = true ∧ 0 < out.length then col l (out ++ [32, c]) false else col l (out ++ [c]) false
theorem drop_at (l : List Int) (k : Nat) (h : k < l.length) : l.drop k = l.getD k 0 :: l.drop (k + 1) := by
  rw [List.drop_eq_getElem_cons h]
  simp [List.getD_eq_getElem?_getD, h]

def ColRel (w : World) (S n : Nat) (l : List Int) (v g i : Value) (wr : World) : Prop :=
  ∃ (k : Nat) (out : List Int) (gap : Bool), k ≤ n ∧ i = .int .i64 k ∧ g = .bool gap ∧ v = .slice (some ⟨w.heap.size, 0, none⟩) out.length n ∧
    wr.ownsRow w.heap.size 5 1 v out.length (out.map (Value.int .u8)) ∧ Below w.heap.size w wr ∧ S < wr.heap.size ∧
    (∀ j, j < n → wr.cell? ⟨S, j, none⟩ = some (.int .u8 (l.getD j 0))) ∧ out.length + gap.toNat ≤ k ∧ (∀ j, 0 ≤ out.getD j 0 ∧ out.getD j 0 < 256) ∧ col (l.drop k) out gap = col l [] false

/-- An append to the row at block G leaves what lies below G, and the row at S. -/
theorem grow_keep {w wr w2 : World} {S n : Nat} {l : List Int} {o : Obj} (hB : Below w.heap.size w wr) (hS : S < wr.heap.size) (hlt : w.heap.size < S)
    (hc : ∀ j, j < n → wr.cell? ⟨S, j, none⟩ = some (.int .u8 (l.getD j 0))) (hg : (wr.alloc o).grownBy w2 (some w.heap.size)) :
    Below w.heap.size w w2 ∧ S < w2.heap.size ∧ ∀ j, j < n → w2.cell? ⟨S, j, none⟩ = some (.int .u8 (l.getD j 0)) := by
  have hs := hg.size
  simp at hs
  refine ⟨(hB.alloc hB.size _).grown hg (by simp; have := hB.size; omega) (fun k hk => by cases hk; exact Nat.le_refl _), by omega, fun j hj => ?_⟩
  refine hg.cell ?_ (by simp; omega)
  rw [World.cell?_alloc_past o S j hS]
  exact hc j hj
theorem getD_app {out : List Int} (h : ∀ j, 0 ≤ out.getD j 0 ∧ out.getD j 0 < 256) (c : Int) (h0 : 0 ≤ c) (h1 : c < 256) : ∀ j, 0 ≤ (out ++ [c]).getD j 0 ∧ (out ++ [c]).getD j 0 < 256 := by
  intro j
  rcases Nat.lt_trichotomy j out.length with g | g | g
  · have := h j
    rw [List.getD_eq_getElem?_getD] at this ⊢
    rw [List.getElem?_append_left g]
    exact this
  · subst g
    simp [List.getD_eq_getElem?_getD, h0, h1]
  · rw [List.getD_eq_getElem?_getD, List.getElem?_eq_none (by simp; omega)]
    simp
theorem info5 : (Tryd.prog.info? 5).map (fun i => (i.zero, i.size, i.bytes)) = some (some (.int .u8 0), 1, 1) := by kernel_rfl

end Go.Proofs.YtjcgnbmpnaapdaaDoor
