/- Rows of texts in memory, wildcards and sets as values. -/
import Derived.Test.YtknfipcegmajaaaDoorHMm
import Derived.Test.YtknfipcegmajaaaDoorHJ4
import Derived.Test.YtknfipcegmajaaaDoorProg
namespace Go.Proofs.YtknfipcegmajaaaDoor
open Go.RowKit
set_option linter.unusedVariables false

/-- A text as a string. -/
def sB (x : Tx) : ByteArray := ⟨x.toArray⟩
def tx (s : ByteArray) : Tx := s.data.toList
theorem sB_tx (s : ByteArray) : sB (tx s) = s := rfl
theorem tx_sB (x : Tx) : tx (sB x) = x := rfl
theorem sB_inj {x y : Tx} : sB x = sB y ↔ x = y := ⟨fun h => by have := congrArg tx h; rwa [tx_sB, tx_sB] at this, fun h => by rw [h]⟩
theorem sB_nil : sB [] = ⟨#[]⟩ := rfl
theorem sB_nil_iff {x : Tx} : sB x = ⟨#[]⟩ ↔ x = [] := by rw [← sB_nil, sB_inj]
theorem addr_off (g off j : Nat) : Addr.add ⟨g, off, none⟩ j = ⟨g, off + j, none⟩ := by unfold Addr.add; split <;> simp_all
abbrev eS (x : Tx) : Value := .string (sB x)
/-- A slice that reads as a row of texts. -/
def TxR (w : World) (v : Value) (l : List Tx) : Prop := ∃ a cap, v = .slice a l.length cap ∧ l.length ≤ cap ∧ (l = [] ∨ ∃ g off, a = some ⟨g, off, none⟩ ∧ g < w.heap.size ∧ ∀ (j : Nat) (hj : j < l.length), w.cell? ⟨g, off + j, none⟩ = some (eS l[j]))
theorem TxR.below {w w' : World} {v : Value} {l : List Tx} (h : TxR w v l) (hb : Below w.heap.size w w') : TxR w' v l := by
  obtain ⟨a, cap, rfl, hc, h⟩ := h
  refine ⟨a, cap, rfl, hc, ?_⟩
  rcases h with h | ⟨g, off, rfl, hg, h⟩
  · exact .inl h
  · exact .inr ⟨g, off, rfl, by have := hb.size; omega, fun j hj => (hb.cell (p := ⟨g, off + j, none⟩) hg).trans (h j hj)⟩
theorem TxR.len {w : World} {v : Value} {l : List Tx} (h : TxR w v l) : ∃ a cap, v = .slice a l.length cap ∧ l.length ≤ cap := by
  obtain ⟨a, cap, rfl, hc, h⟩ := h
  exact ⟨a, cap, rfl, hc⟩
theorem TxR.nil (w : World) (a : Option Addr) (c : Nat) : TxR w (.slice a 0 c) [] := ⟨a, c, rfl, Nat.zero_le _, .inl rfl⟩
/-- A row of texts of one's own. -/
def tc (l : List Tx) : List Value := l.map eS
theorem tc_len (l : List Tx) : (tc l).length = l.length := by simp [tc]
theorem tc_app (a b : List Tx) : tc (a ++ b) = tc a ++ tc b := by simp [tc]
theorem tc_one (l : List Tx) : ∀ u ∈ tc l, u.oneCell' = true := fun u hu => by
  simp only [tc, List.mem_map] at hu
  obtain ⟨x, _, rfl⟩ := hu
  rfl
abbrev OwS (w : World) (base : Nat) (v : Value) (l : List Tx) : Prop := w.ownsRow base 9 1 v l.length (tc l)
theorem OwS.nil (w : World) (base : Nat) : OwS w base (.slice none 0 0) [] := ⟨rfl, .inl ⟨rfl, rfl⟩⟩
theorem OwS.cells {w : World} {base g n cap : Nat} {l : List Tx} (h : OwS w base (.slice (some ⟨g, 0, none⟩) n cap) l) (j : Nat) (hj : j < l.length) : w.cell? ⟨g, j, none⟩ = some (eS l[j]) := by
  have := World.ownsRow.cells (g := g) h rfl j (eS l[j]) (by simp [tc, hj])
  rw [Addr.add_lit, Nat.zero_add] at this
  exact this
theorem OwS.tx {w : World} {base : Nat} {v : Value} {l : List Tx} (h : OwS w base v l) : TxR w v l := by
  rcases h.2 with ⟨rfl, h0⟩ | ⟨g, cap, cur, rfl, h3, h4, h5, _⟩
  · have : l = [] := List.length_eq_zero_iff.1 h0
    subst this
    exact ⟨none, 0, rfl, Nat.le_refl _, .inl rfl⟩
  · exact ⟨_, cap, rfl, h5, .inr ⟨g, 0, rfl, lt_of h4, fun j hj => by rw [Nat.zero_add]; exact OwS.cells h j hj⟩⟩
/-- Its cells, as an append takes them. -/
theorem tx_news {w : World} {a : Option Addr} {c n : Nat} {l : List Tx} (h : TxR w (.slice a n c) l) : n = 0 ∨ ∃ ad, a = some ad ∧ ∀ j u, (tc l)[j]? = some u → w.cell? (ad.add j) = some u := by
  obtain ⟨a', c', e, _, h⟩ := h
  simp only [Value.slice.injEq] at e
  obtain ⟨rfl, rfl, rfl⟩ := e
  rcases h with h | ⟨g, off, rfl, hg, h⟩
  · exact .inl (by rw [h]; rfl)
  · refine .inr ⟨_, rfl, fun j u hu => ?_⟩
    rw [addr_off]
    have hj : j < l.length := by rw [← tc_len l]; exact (List.getElem?_eq_some_iff.1 hu).1
    simp [tc, hj] at hu
    rw [← hu]
    exact h j hj
theorem tx_at {w : World} {a : Option Addr} {c n : Nat} {l : List Tx} (h : TxR w (.slice a n c) l) (hn : 0 < n) : ∃ g off, a = some ⟨g, off, none⟩ ∧ g < w.heap.size ∧ ∀ (j : Nat) (hj : j < l.length), w.cell? ⟨g, off + j, none⟩ = some (eS l[j]) := by
  obtain ⟨a', c', e, _, h⟩ := h
  simp only [Value.slice.injEq] at e
  obtain ⟨rfl, rfl, rfl⟩ := e
  rcases h with h | h
  · subst h; simp at hn
  · exact h
theorem info_s : (Tryd.prog.info? 9).map (fun i => (i.zero, i.size, i.bytes)) = some (some (.string ⟨#[]⟩), 1, 16) := by kernel_rfl
theorem info_sp : ∃ i, Tryd.prog.info? 9 = some i ∧ i.zero = some (.string ⟨#[]⟩) ∧ i.size = 1 ∧ i.bytes = 16 := by
  have := info_s
  cases h : Tryd.prog.info? 9 with
  | none => rw [h] at this; simp at this
  | some i =>
    rw [h] at this
    simp at this
    exact ⟨i, rfl, this.1, this.2.1, this.2.2⟩
/-- A wildcard as a value. -/
abbrev wdV (W : Wd) (sl : Value) : Value := .agg #[.int .i64 W.how, .string (sB W.nt), sl, .int .i64 W.pr]
def WdV (w : World) (v : Value) (W : Wd) : Prop := ∃ sl, v = wdV W sl ∧ TxR w sl W.sp
theorem WdV.below {w w' : World} {v : Value} {W : Wd} (h : WdV w v W) (hb : Below w.heap.size w w') : WdV w' v W := by
  obtain ⟨sl, rfl, h⟩ := h
  exact ⟨sl, rfl, h.below hb⟩
/-- A set as a value. -/
abbrev spV (s : Sp) (sl : Value) : Value := .agg #[.bool s.o, sl]
def SpV (w : World) (v : Value) (s : Sp) : Prop := ∃ sl, v = spV s sl ∧ TxR w sl s.l
theorem SpV.below {w w' : World} {v : Value} {s : Sp} (h : SpV w v s) (hb : Below w.heap.size w w') : SpV w' v s := by
  obtain ⟨sl, rfl, h⟩ := h
  exact ⟨sl, rfl, h.below hb⟩
end Go.Proofs.YtknfipcegmajaaaDoor
