/- Attributes: rows of them in memory; whether one of a name is there. -/
import Derived.Test.YtjcgnbmpnaapdaaDoorVal
import Derived.Lib.Strings
namespace Go.Proofs.YtjcgnbmpnaapdaaDoor
open Go.RowKit
set_option linter.unusedVariables false

def atCells (a : At) : List Value := [.string (sb a.name), .string (sb a.value), .int .i64 a.place]
/-- A row of attributes of its own. -/
abbrev AR (B : Nat) (w : World) (sv : Value) (l : List At) : Prop := w.ownsRow B 37 3 sv l.length (l.flatMap atCells)

theorem at_get (l : List At) : ∀ (i c : Nat) (hi : i < l.length), c < 3 → (l.flatMap atCells)[3 * i + c]? = (atCells (l[i]'hi))[c]? := by
  induction l with
  | nil => intro i c hi; simp at hi
  | cons a l ih =>
    intro i c hi hc
    rw [List.flatMap_cons]
    cases i with
    | zero =>
      rw [List.getElem?_append_left (by simp [atCells]; omega)]
      simp
    | succ i =>
      rw [List.getElem?_append_right (by simp [atCells]; omega)]
      have e : 3 * (i + 1) + c - (atCells a).length = 3 * i + c := by simp [atCells]; omega
      rw [e, ih i c (by simpa using hi) hc]
      simp

theorem clo_any {A : Nat} {nm val nm0 : ByteArray} {pl : Int} {w : World} (hA : w.cell? ⟨A, 0, none⟩ = some (.string nm0)) :
    Calls Tryd.prog 90 #[.agg #[.string nm, .string val, .int .i64 pl], .pointer (some ⟨A, 0, none⟩)] w fun e w' => e = .returned (.bool (nm.toList == nm0.toList)) ∧ Below w.heap.size w w' := by
  have hlt : A < w.heap.size := World.block_lt_of_cell? w _ hA
  have hne : A ≠ w.heap.size := by omega
  go_enter Tryd.func90, Tryd.ntmps90
  go_wp2
  go_ret
  exact ⟨rfl, (Below.refl _ _).alloc (Nat.le_refl _) _⟩

theorem sb_beq {a b : Bs} (ha : ∀ i, 0 ≤ a.getD i 0 ∧ a.getD i 0 < 256) (hb : ∀ i, 0 ≤ b.getD i 0 ∧ b.getD i 0 < 256) : ((sb a).toList == (sb b).toList) = (a == b) := by
  rw [Bool.eq_iff_iff, beq_iff_eq, beq_iff_eq]
  constructor
  · intro h
    rw [Lib.toList_data, Lib.toList_data] at h
    rw [← bl_sb a ha, ← bl_sb b hb]
    unfold bl
    rw [h]
  · rintro rfl; rfl
def AtOk (a : At) : Prop := (∀ i, 0 ≤ a.name.getD i 0 ∧ a.name.getD i 0 < 256) ∧ (∀ i, 0 ≤ a.value.getD i 0 ∧ a.value.getD i 0 < 256)

theorem AR.cell {B : Nat} {w : World} {g cap : Nat} {l : List At} (h : AR B w (.slice (some ⟨g, 0, none⟩) l.length cap) l) (i c : Nat) (hi : i < l.length) (hc : c < 3) : w.cell? ⟨g, i * 3 + c, none⟩ = (atCells (l[i]'hi))[c]? := by
  rw [Nat.mul_comm i 3]
  have hx := at_get l i c hi hc
  have hlen : c < (atCells (l[i]'hi)).length := by simp [atCells]; exact hc
  rw [List.getElem?_eq_getElem hlen] at hx
  have := h.cells (g := g) rfl (3 * i + c) _ hx
  rw [addr_add, Nat.zero_add] at this
  rw [this, List.getElem?_eq_getElem hlen]
theorem AR.form {B : Nat} {w : World} {sv : Value} {l : List At} (h : AR B w sv l) : (sv = .slice none 0 0 ∧ l = []) ∨ ∃ g cap, sv = .slice (some ⟨g, 0, none⟩) l.length cap ∧ l.length ≤ cap ∧ cap ≤ maxLen ∧ B ≤ g ∧ g < w.heap.size := by
  rcases h.2 with ⟨rfl, h0⟩ | ⟨g, cap, cur, rfl, hbg, hg, hnc, hcm, hcs, htake⟩
  · exact .inl ⟨rfl, List.eq_nil_of_length_eq_zero h0⟩
  · exact .inr ⟨g, cap, rfl, hnc, hcm, hbg, (Array.getElem?_eq_some_iff.1 hg).1⟩

set_option maxHeartbeats 800000 in
theorem idx_any {A B : Nat} {nm : Bs} {sv : Value} {l : List At} {w : World} (hA : w.cell? ⟨A, 0, none⟩ = some (.string (sb nm))) (hnm : ∀ i, 0 ≤ nm.getD i 0 ∧ nm.getD i 0 < 256) (hok : ∀ a ∈ l, AtOk a) (h : AR B w sv l) (hl : l.length ≤ 4096) :
    Calls Tryd.prog 97 #[sv, .func (Fn.func 90) #[] #[.pointer (some ⟨A, 0, none⟩)]] w fun e w' => ∃ i : Int, e = .returned (.int .i64 i) ∧ (l.any fun a => a.name == nm) = decide (0 ≤ i) ∧ Below w.heap.size w w' := by
  rcases h.form with ⟨rfl, rfl⟩ | ⟨g, cap, rfl, hc, hm, _, hg⟩
  · go_enter Tryd.func97, Tryd.ntmps97
    go_wp2
    go_loopg [8] 0 (fun n iv wr => iv = .int .i64 0 ∧ wr = w)
    case atStart => exact ⟨rfl, rfl⟩
    case round =>
      obtain ⟨rfl, rfl⟩ := hrel
      go_wp2
      go_ret
      exact ⟨-1, rfl, rfl, Below.refl _ _⟩
  · have HC := fun i c hi hc => AR.cell h i c hi hc
    unfold maxLen at hm
    have hAlt : A < w.heap.size := World.block_lt_of_cell? w _ hA
    go_enter Tryd.func97, Tryd.ntmps97
    go_wp2
    go_loopg [8] l.length (fun n iv wr => ∃ i : Nat, iv = .int .i64 i ∧ i + n = l.length ∧ Below w.heap.size w wr ∧ Hid ((l.take i).any (fun a => a.name == nm) = false))
    case atStart => exact ⟨0, rfl, by omega, Below.refl _ _, rfl⟩
    case round =>
      obtain ⟨i, rfl, hin, hb, HF⟩ := hrel
      by_cases hlt : i < l.length
      · have e0 := (hb.cell (p := ⟨g, i * 3 + 0, none⟩) hg).trans (HC i 0 hlt (by omega))
        have e1 := (hb.cell (p := ⟨g, i * 3 + 1, none⟩) hg).trans (HC i 1 hlt (by omega))
        have e2 := (hb.cell (p := ⟨g, i * 3 + 2, none⟩) hg).trans (HC i 2 hlt (by omega))
        have hA' := (hb.cell (p := ⟨A, 0, none⟩) hAlt).trans hA
        have HOK := hok _ (List.getElem_mem hlt)
        have HT : Hid (l.take (i + 1) = l.take i ++ [l[i]]) := List.take_succ_eq_append_getElem hlt
        simp [atCells] at e0 e1 e2
        clear HC hok h
        generalize l[i] = a at *
        have hbe := sb_beq HOK.1 hnm
        cases hq : (a.name == nm)
        · rw [hq] at hbe
          go_wp2_with (first | (go_at_call 90; refine (clo_any hA').mono ?_; rintro e w2 ⟨rfl, hb2⟩))
          go_roundg (l.length - (i + 1))
          case measure => omega
          case rel =>
            refine ⟨i + 1, by go_num, by omega, hb.trans (hb2.mono hb.size), ?_⟩
            show _ = false
            rw [HT.out, List.any_append, HF.out]
            simp [hq]
        · rw [hq] at hbe
          go_wp2_with (first | (go_at_call 90; refine (clo_any hA').mono ?_; rintro e w2 ⟨rfl, hb2⟩))
          go_ret
          refine ⟨i, rfl, ?_, hb.trans (hb2.mono hb.size)⟩
          have : l.any (fun a => a.name == nm) = true := by
            rw [List.any_eq_true]
            refine ⟨a, ?_, hq⟩
            have : a ∈ l.take (i + 1) := by rw [HT.out]; simp
            exact List.mem_of_mem_take this
          rw [this]
          simp
      · go_wp2
        go_ret
        refine ⟨-1, rfl, ?_, hb⟩
        have := HF.out
        rw [List.take_of_length_le (by omega)] at this
        rw [this]; rfl

theorem contains_any {A B : Nat} {nm : Bs} {sv : Value} {l : List At} {w : World} (hA : w.cell? ⟨A, 0, none⟩ = some (.string (sb nm))) (hnm : ∀ i, 0 ≤ nm.getD i 0 ∧ nm.getD i 0 < 256) (hok : ∀ a ∈ l, AtOk a) (h : AR B w sv l) (hl : l.length ≤ 4096) :
    Calls Tryd.prog 89 #[sv, .func (Fn.func 90) #[] #[.pointer (some ⟨A, 0, none⟩)]] w fun e w' => e = .returned (.bool (l.any fun a => a.name == nm)) ∧ Below w.heap.size w w' := by
  have H := idx_any hA hnm hok h hl
  generalize (l.any fun a => a.name == nm) = r at *
  go_enter Tryd.func89, Tryd.ntmps89
  go_wp2_with (first | (go_at_call 97; refine H.mono ?_; rintro e w2 ⟨i, rfl, rfl, hb2⟩))
  go_ret
  exact ⟨rfl, hb2⟩
end Go.Proofs.YtjcgnbmpnaapdaaDoor
