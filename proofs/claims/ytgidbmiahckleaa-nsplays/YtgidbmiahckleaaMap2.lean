/- Maps keyed by a name (two strings). -/
import Derived.Test.YtgidbmiahckleaaNs7
import Derived.Laws.StructEq
namespace Go.Proofs.Ytgidbmiahckleaa
open Go.RowKit
set_option linter.unusedVariables false

theorem ck37 (e : Bool) (a b : ByteArray) (w : World) : (Instr.checkKey e 10000 37 (.agg #[.string a, .string b])).run Try.prog w = .ok () w := by
  kernel_rfl
theorem st37 : Try.prog.underlying 37 = some (.struct (Try.prog.fieldsOf 37)) := by kernel_rfl
theorem eq37 (a b c d : ByteArray) (w : World) : (Op.equal 37 (.agg #[.string a, .string b]) (.agg #[.string c, .string d])).run Try.prog w = .ok ((a.toList == c.toList) && (b.toList == d.toList)) w := by
  have h := run_equalIn_agg (P := Try.prog) w 9999 37 #[.string a, .string b] #[.string c, .string d] st37 (by kernel_rfl)
  unfold Op.equal
  refine h.trans ?_
  simp [go_sem, Op.eqFields]
  by_cases h1 : a.toList = c.toList <;> by_cases h2 : b.toList = d.toList <;> simp [h1, h2]
abbrev nk (p : ByteArray × ByteArray) : Value := .agg #[.string p.1, .string p.2]
/-- A set of names in memory. -/
def MapN (w : World) (b : Nat) (ks : List (ByteArray × ByteArray)) : Prop := ∃ arr clk, w.heap[b]? = some (.map arr clk) ∧ arr.toList.map (fun e => (e.key, e.val)) = ks.map fun p => (nk p, Value.agg #[])
def hasN (ks : List (ByteArray × ByteArray)) (q : ByteArray × ByteArray) : Bool := ks.any fun p => (q.1.toList == p.1.toList) && (q.2.toList == p.2.toList)
theorem ask_n (q : ByteArray × ByteArray) (w : World) : ∀ (L : List MapEntry) (ks : List (ByteArray × ByteArray)) (i : Nat), L.map (fun e => (e.key, e.val)) = ks.map (fun p => (nk p, Value.agg #[])) →
    ∃ r, (Instr.findAsking 37 (nk q) L i).run Try.prog w = .ok r w ∧ ((hasN ks q = true ∧ ∃ j, r = some (j, .agg #[])) ∨ (hasN ks q = false ∧ r = none))
  | [], [], i, h => ⟨none, rfl, .inr ⟨rfl, rfl⟩⟩
  | [], p :: ks, i, h => by simp at h
  | e :: L, [], i, h => by simp at h
  | e :: L, p :: ks, i, h => by
    simp at h
    obtain ⟨⟨h1, h2⟩, h3⟩ := h
    obtain ⟨r, ih1, ih2⟩ := ask_n q w L ks (i + 1) (by simpa using h3)
    have he := eq37 q.1 q.2 p.1 p.2 w
    cases hq : ((q.1.toList == p.1.toList) && (q.2.toList == p.2.toList)) with
    | true =>
      rw [hq] at he
      refine ⟨some (i, .agg #[]), ?_, .inl ⟨by simp only [hasN, List.any_cons, hq, Bool.true_or], _, rfl⟩⟩
      simp only [Instr.findAsking, Sem.run_bind, h1, he, Result.andThen]
      simp [h2]
    | false =>
      rw [hq] at he
      refine ⟨r, ?_, ?_⟩
      · simp only [Instr.findAsking, Sem.run_bind, h1, he, Result.andThen]
        simpa using ih1
      · have e2 : hasN (p :: ks) q = hasN ks q := by simp only [hasN, List.any_cons, hq, Bool.false_or]
        rw [e2]
        exact ih2
theorem find_n (q : ByteArray × ByteArray) (w : World) (L : List MapEntry) (ks : List (ByteArray × ByteArray)) (h : L.map (fun e => (e.key, e.val)) = ks.map (fun p => (nk p, Value.agg #[]))) :
    ∃ r, (Instr.findKey 37 (nk q) L).run Try.prog w = .ok r w ∧ ((hasN ks q = true ∧ ∃ j, r = some (j, .agg #[])) ∨ (hasN ks q = false ∧ r = none)) := by
  cases L with
  | nil =>
    have hk : ks = [] := by cases ks with | nil => rfl | cons p ks => simp at h
    subst hk
    refine ⟨none, ?_, .inr ⟨rfl, rfl⟩⟩
    simp only [Instr.findKey, Sem.run_bind, run_underlying st37, Result.andThen, Instr.findNow]
    rfl
  | cons e L =>
    obtain ⟨r, h1, h2⟩ := ask_n q w (e :: L) ks 0 h
    refine ⟨r, ?_, h2⟩
    simp only [Instr.findKey, Sem.run_bind, run_underlying st37, Result.andThen, Instr.findNow, Instr.sameNow]
    exact h1
theorem zero99 (w : World) : (zeroValue 99).run Try.prog w = .ok (.agg #[]) w := by kernel_rfl
theorem look_n {w : World} {b : Nat} {ks : List (ByteArray × ByteArray)} (h : MapN w b ks) (q : ByteArray × ByteArray) :
    (Instr.lookup 98 (.map (some b)) (nk q) true).run Try.prog w = .ok (.tuple #[.agg #[], .bool (hasN ks q)]) w := by
  obtain ⟨arr, clk, hb, he⟩ := h
  obtain ⟨r, h1, h2⟩ := find_n q w arr.toList ks he
  have hg := Go.MapKept.run_getObj_map (P := Try.prog) hb
  have hk := ck37 arr.isEmpty q.1 q.2 w
  have hz := zero99 w
  simp only [Instr.lookup, Sem.run_bind, run_underlying Try.underlying98, Result.andThen, hg, Sem.run_pure, hk, h1]
  rcases h2 with ⟨e1, j, rfl⟩ | ⟨e1, rfl⟩
  · simp [e1]
  · simp [e1, hz, Result.andThen]
theorem new_n (W : World) : MapN (W.alloc (.map #[] 0)) W.heap.size [] := ⟨#[], 0, nw_heap W _, rfl⟩
theorem upd_n {w : World} {b : Nat} {ks : List (ByteArray × ByteArray)} (h : MapN w b ks) (q : ByteArray × ByteArray) (hn : hasN ks q = false) :
    ∃ w', (Instr.mapUpdate 98 (.map (some b)) (nk q) (.agg #[])).run Try.prog w = .ok () w' ∧ MapN w' b (ks ++ [q]) ∧ w.grownBy w' (some b) := by
  obtain ⟨arr, clk, hb, he⟩ := h
  obtain ⟨r, h1, h2⟩ := find_n q w arr.toList ks he
  have hg := Go.MapKept.run_getObj_map (P := Try.prog) hb
  have hk := ck37 false q.1 q.2 w
  have hlt : b < w.heap.size := (Array.getElem?_eq_some_iff.1 hb).1
  rcases h2 with ⟨e1, _⟩ | ⟨_, rfl⟩
  · rw [hn] at e1; simp at e1
  · have hs := Go.MapKept.run_setObj_map (P := Try.prog) (.map (arr.push { key := nk q, val := .agg #[], born := clk }) (clk + 1)) hb
    refine ⟨{ w with heap := w.heap.setIfInBounds b (.map (arr.push { key := nk q, val := .agg #[], born := clk }) (clk + 1)) }, ?_, ⟨_, _, by simp [hlt]; exact ⟨rfl, rfl⟩, by simp [he]⟩, put_obj w b _⟩
    simp only [Instr.mapUpdate, Sem.run_bind, run_underlying Try.underlying98, Result.andThen, hg, hk, h1]
    simpa using hs
end Go.Proofs.Ytgidbmiahckleaa
