/- What an element hid, gone over: in whatever order. -/
import Derived.Test.YtgidbmiahckleaaNs8
import Derived.Maps.RangeRun
namespace Go.Proofs.Ytgidbmiahckleaa
open Go.RowKit
open Go.ChangeMaps (setBlock)
set_option linter.unusedVariables false

abbrev hv2 (o : Option ByteArray) : Value := match o with | some sp => .agg #[.string sp, .bool true] | none => zB
/-- An iterator over a map of what was hidden, and what of it is still to come. -/
def It (w : World) (r : Nat) (hb : Option Nat) (lf : List (ByteArray × Option ByteArray)) : Prop :=
  (hb = none ∧ lf = [] ∧ w.heap[r]? = some (.mapIter none 0 #[] 0)) ∨
  ∃ b arr clk seen, hb = some b ∧ w.heap[r]? = some (.mapIter (some b) clk seen clk) ∧ w.heap[b]? = some (.map arr clk) ∧ Bok arr clk ∧ (leftOf arr seen).toList.map (fun e => (e.key, e.val)) = (hbv lf).map (fun p => (Value.string p.1, p.2))
theorem It.fro {O : Nat → Prop} {w w' : World} {r : Nat} {hb : Option Nat} {lf : List (ByteArray × Option ByteArray)} (h : It w r hb lf) (hf : Fro O w w') (hr : ¬ O r) (hO : ∀ b, hb = some b → ¬ O b) : It w' r hb lf := by
  rcases h with ⟨h1, h2, h3⟩ | ⟨b, arr, clk, seen, h1, h2, h3, h4, h5⟩
  · exact .inl ⟨h1, h2, (hf.block r (lt_of h3) hr).trans h3⟩
  · exact .inr ⟨b, arr, clk, seen, h1, (hf.block r (lt_of h2) hr).trans h2, (hf.block b (lt_of h3) (hO b h1)).trans h3, h4, h5⟩
theorem It.start {w : World} {v : Value} {h : List (ByteArray × Option ByteArray)} (hh : HidAt w v h) : ∃ X hb, (Instr.range 78 v).run Try.prog w = .ok (.pointer (some ⟨w.heap.size, 0, none⟩)) (w.alloc X) ∧ v = .map hb ∧ It (w.alloc X) w.heap.size hb h := by
  rcases hh with ⟨rfl, rfl⟩ | ⟨b, rfl, arr, clk, h1, h2, h3⟩
  · exact ⟨_, none, run_range_nilMap w 78 _ _ Try.underlying78, rfl, .inl ⟨rfl, rfl, nw_heap _ _⟩⟩
  · refine ⟨_, some b, run_range_map w 78 _ _ b arr clk Try.underlying78 h1, rfl, .inr ⟨b, arr, clk, #[], rfl, nw_heap _ _, ?_, h3, ?_⟩⟩
    · exact (((Below.refl w.heap.size w).alloc (Nat.le_refl _) _).block _ (lt_of h1)).trans h1
    · have : leftOf arr #[] = arr := by
        unfold leftOf
        exact Array.filter_eq_self.2 (fun x hx => by simp)
      rw [this]
      exact h2
theorem left_push (L : List MapEntry) (e : MapEntry) (hn : (L.map (·.born)).Nodup) (he : e ∈ L) : ∃ A B, L = A ++ e :: B ∧ L.filter (fun x => !(x.born == e.born)) = A ++ B := by
  obtain ⟨A, B, rfl⟩ := List.append_of_mem he
  refine ⟨A, B, rfl, ?_⟩
  rw [List.map_append, List.map_cons, List.nodup_append] at hn
  obtain ⟨h1, h2, h3⟩ := hn
  rw [List.nodup_cons] at h2
  have hA : A.filter (fun x => !(x.born == e.born)) = A := List.filter_eq_self.2 (fun x hx => by
    have := h3 x.born (List.mem_map_of_mem hx) e.born (by simp)
    simpa using this)
  have hB : B.filter (fun x => !(x.born == e.born)) = B := List.filter_eq_self.2 (fun x hx => by
    have : x.born ≠ e.born := fun q => h2.1 (by rw [← q]; exact List.mem_map_of_mem hx)
    simpa using this)
  rw [List.filter_append, List.filter_cons, hA, hB]
  simp
theorem It.next {w : World} {r : Nat} {hb : Option Nat} {lf : List (ByteArray × Option ByteArray)} (h : It w r hb lf) (ty : TypeId) :
    (lf = [] ∧ (Instr.next (.pointer (some ⟨r, 0, none⟩)) false ty).run Try.prog w = .ok (.tuple #[.bool false]) w) ∨
    ∃ A p B W1, lf = A ++ p :: B ∧ (Instr.next (.pointer (some ⟨r, 0, none⟩)) false ty).run Try.prog w = .ok (.tuple #[.bool true, .string p.1, hv2 p.2]) W1 ∧ (Instr.entry (.pointer (some ⟨r, 0, none⟩))).run Try.prog W1 = .ok (.tuple #[.string p.1, hv2 p.2]) W1 ∧ It W1 r hb (A ++ B) ∧ Fro (fun j => j = r) w W1 := by
  rcases h with ⟨rfl, rfl, h3⟩ | ⟨b, arr, clk, seen, rfl, h2, h3, h4, h5⟩
  · refine .inl ⟨rfl, ?_⟩
    simp only [Instr.next, getObj, Sem.run_bind, Sem.run, h3, Result.andThen]
    rfl
  · rcases run_next_at (P := Try.prog) w ty r b clk clk seen arr clk h2 h3 h4.2 (Nat.le_refl _) with ⟨k1, k2⟩ | ⟨e, he, w1, hw1, k2⟩
    · refine .inl ⟨?_, k2⟩
      have h6 := congrArg List.length h5
      simp [k1, hbv] at h6
      exact List.eq_nil_of_length_eq_zero (by omega)
    · right
      obtain ⟨hm1, hm2⟩ := mem_left he
      have hnl : ((leftOf arr seen).toList.map (·.born)).Nodup := by
        have : (leftOf arr seen).toList.Sublist arr.toList := by
          unfold leftOf
          rw [Array.toList_filter]
          exact List.filter_sublist
        exact (this.map _).nodup h4.1
      obtain ⟨A, B, e1, e2⟩ := left_push _ e hnl he
      have hpush : (leftOf arr (seen.push e.born)).toList = A ++ B := by
        rw [← e2]
        unfold leftOf
        rw [Array.toList_filter, Array.toList_filter, List.filter_filter]
        congr 1
        funext x
        rw [contains_push]
        cases seen.contains x.born <;> cases (x.born == e.born) <;> rfl
      rw [e1, List.map_append, List.map_cons] at h5
      have h6 := h5.symm
      unfold hbv at h6
      rw [List.map_map] at h6
      obtain ⟨lA, l2, rfl, h7, h8⟩ := List.map_eq_append_iff.1 h6
      obtain ⟨p, lB, rfl, h9, h10⟩ := List.map_eq_cons_iff.1 h8
      have hk : Value.string p.1 = e.key ∧ hv2 p.2 = e.val := by
        have h11 := Prod.mk.inj h9
        exact ⟨h11.1, h11.2⟩
      have hw : w1.heap = w.heap := by rcases hw1 with rfl | rfl <;> rfl
      have hf : Fro (fun j => j = r) w (setBlock w1 r (.mapIter (some b) clk (seen.push e.born) clk)) := by
        refine ⟨by rcases hw1 with rfl | rfl <;> rfl, by rcases hw1 with rfl | rfl <;> rfl, by rcases hw1 with rfl | rfl <;> rfl, by simp [setBlock, hw], fun j hj hn => ?_⟩
        have : r ≠ j := fun q => hn q.symm
        simp [setBlock, hw, this]
      have hr1 : (setBlock w1 r (.mapIter (some b) clk (seen.push e.born) clk)).heap[r]? = some (.mapIter (some b) clk (seen.push e.born) clk) := by
        have := lt_of h2
        simp [setBlock, hw, this]
      have hbr : b ≠ r := by
        rintro rfl
        rw [h2] at h3
        cases h3
      have hb1 := (hf.block b (lt_of h3) hbr).trans h3
      refine ⟨lA, p, lB, _, rfl, ?_, ?_, .inr ⟨b, arr, clk, seen.push e.born, rfl, hr1, hb1, h4, ?_⟩, hf⟩
      · rw [hk.1, hk.2]; exact k2
      · rw [hk.1, hk.2]; exact run_entry_at _ r b clk seen arr clk e hr1 hb1 hm1 h4.1
      · rw [hpush, List.map_append, ← h7, ← h10]
        simp [hbv]
end Go.Proofs.Ytgidbmiahckleaa
