/- The sort of Binds: by the library's own contract. -/
import Derived.Test.YtgidbmiahckleaaLay
import Derived.Test.YtgidbmiahckleaaSrtM
namespace Go.Proofs.Ytgidbmiahckleaa
open Go.RowKit Go.Sort
set_option linter.unusedVariables false

def cfB (x y : ByteArray × ByteArray) : Int := Lib.compareBytes x.1.data.toList y.1.data.toList
theorem swoB : SWO (ltOf cfB) where
  irrefl x := by unfold ltOf cfB; rw [cmp_self]; rfl
  trans x y z h1 h2 := by
    unfold ltOf cfB at *
    simp only [decide_eq_true_eq] at *
    exact cmp_trans _ _ _ h1 h2
  ntrans x y z h1 h2 := by
    unfold ltOf cfB at *
    simp only [decide_eq_false_iff_not] at *
    intro h3
    have n1 := cmp_neg x.1.data.toList y.1.data.toList
    have n2 := cmp_neg y.1.data.toList z.1.data.toList
    by_cases e1 : Lib.compareBytes x.1.data.toList y.1.data.toList = 0
    · rw [cmp_zero _ _ e1] at h3
      exact h2 h3
    · have l1 : Lib.compareBytes y.1.data.toList x.1.data.toList < 0 := by omega
      exact h2 (cmp_trans _ _ _ l1 h3)
set_option maxHeartbeats 1000000 in
theorem clo35 (x y : ByteArray × ByteArray) (W : World) : Calls Try.prog 35 #[.agg #[.string x.1, .string x.2], .agg #[.string y.1, .string y.2]] W fun e w' => e = .returned (.int .i64 (cfB x y)) ∧ ∃ q os', w' = grow (W.drewN q) os' := by
  have hcon := fun W' => Any.strings_Compare cmpS x.1 y.1 W'
  change ∀ W', Calls Try.prog 36 _ _ _ at hcon
  have e : cfB x y = Lib.compareBytes x.1.data.toList y.1.data.toList := rfl
  generalize Lib.compareBytes x.1.data.toList y.1.data.toList = r at hcon e
  rw [e]
  go_enter Try.func35, Try.ntmps35
  go_wp2_with (go_at_call 36; refine (hcon _).mono ?_; rintro e w' ⟨rfl, rfl⟩)
  go_ret
  exact ⟨rfl, 0, _, by rw [alloc_eq_grow, alloc_eq_grow, grow_grow]; rfl⟩
theorem holds_row {w : World} {base g cap : Nat} {l : Bs} (h : w.ownsRow base 68 2 (.slice (some ⟨g, 0, none⟩) l.length cap) l.length (l.flatMap bc)) : HoldsK bc 2 w g 0 l.toArray := by
  intro j hj
  rw [size_flatK, List.size_toArray] at hj
  have hc := h.cells (g := g) rfl j _ (bc_get l j hj)
  rw [addr_add0] at hc
  rw [get_flatK _ _ _ _ (by rw [List.size_toArray]; exact hj), Nat.zero_add]
  refine ⟨hc, ?_⟩
  rcases h.2 with ⟨e, _⟩ | ⟨g', cap', cur, e, _, hg, _⟩
  · simp at e
  · simp at e
    obtain ⟨rfl, rfl⟩ := e
    simp [World.frozen?, hg]
theorem sort_ok : SortOk := by
  intro l g cap base w hrow hl
  have hH := holds_row hrow
  obtain ⟨hlen, hd⟩ := hrow
  rcases hd with ⟨e, _⟩ | ⟨g', cap', cur, e, hbg, hg, hnc, hcm, hcs, htk⟩
  · simp at e
  simp at e
  obtain ⟨rfl, rfl⟩ := e
  have hblk := lt_of hg
  have eg : ∀ args w, (callFunc 35 args).run Try.prog w = .ok (.enter 35 args) w := enters_of Try.func35 (by kernel_rfl) rfl
  have hcl : CmpLays Try.prog 35 #[] bc 2 cfB g 0 l.toArray.size w := fun _ _ _ _ x y => clo35 x y _
  have hcon := AnyQ.slices_SortFunc sortB 2 Try.isAgg68 Try.sizeOf68 bc (fun _ => rfl) (fun x v hv => by simp [bc] at hv; rcases hv with rfl | rfl <;> rfl) cfB swoB 35 #[] g 0 cap l.toArray w eg hcl hH hblk (by rw [List.size_toArray]; omega)
  change Calls Try.prog 34 _ _ _ at hcon
  rw [List.size_toArray] at hcon
  refine hcon.mono ?_
  rintro e w' ⟨rfl, d', n, os, hp, hs, rfl⟩
  obtain ⟨p0, p2, p3⟩ := hp
  have p1 : d'.size = l.length := by simpa using p0
  clear p0
  have hdl : d'.toList.length = l.length := by rw [Array.length_toList]; exact p1
  refine ⟨rfl, d'.toList, ?_, ?_, ?_, ?_⟩
  · have e1 : d'.extract 0 l.length = d' := by rw [← p1]; simp
    have e2 : l.toArray.extract 0 l.length = l.toArray := by simp
    rw [e1, e2] at p3
    exact p3
  · unfold Srt
    rw [List.pairwise_iff_getElem]
    intro i j hi hj hij
    have := hs i j (Nat.zero_le _) hij (by omega)
    unfold ltOf cfB at this
    simp only [decide_eq_false_iff_not] at this
    rw [Array.length_toList] at hi hj
    rw [getElem!_pos d' i hi, getElem!_pos d' j hj] at this
    simpa using this
  · have hX : (sortWorldK bc 2 w g 0 n d' os).heap[g]? = some (.cells (putCells id 0 (flatK bc 2 d') cur) 68 (0, 0)) := by
      unfold sortWorldK grow putRowK putRow mapBlock
      have h1 : ((Sort.ahead w n).heap.modify g (onCells (putCells id 0 (flatK bc 2 d'))))[g]? = some (.cells (putCells id 0 (flatK bc 2 d') cur) 68 (0, 0)) := by
        rw [Array.getElem?_modify, if_pos rfl]
        show Option.map _ w.heap[g]? = _
        rw [hg]
        rfl
      rw [Array.getElem?_append_left (lt_of (w := { w with heap := (Sort.ahead w n).heap.modify g (onCells (putCells id 0 (flatK bc 2 d'))) }) h1)]
      exact h1
    refine ⟨by rw [bc_len, hdl], .inr ⟨g, cap, _, rfl, hbg, hX, hnc, hcm, by unfold putCells; simp [hcs], ?_⟩⟩
    apply List.ext_getElem?
    intro t
    rw [List.getElem?_take]
    by_cases ht : t < l.length * 2
    · rw [if_pos ht, bc_get _ _ (by rw [hdl]; exact ht)]
      have htc : t < cur.size := by rw [hcs]; omega
      have hf : (flatK bc 2 d').size = l.length * 2 := by rw [size_flatK, p1]
      unfold putCells
      rw [Array.getElem?_toList, Array.getElem?_mapIdx, Array.getElem?_eq_getElem htc]
      simp only [Option.map_some, Nat.zero_le, Nat.zero_add, true_and, Nat.sub_zero]
      rw [if_pos (by rw [hf]; exact ht), get_flatK _ _ _ _ (by rw [p1]; exact ht)]
      rfl
    · rw [if_neg ht, List.getElem?_eq_none (by rw [bc_len, hdl]; omega)]
  · refine ⟨rfl, rfl, rfl, ?_, fun k hk hne => ?_⟩
    · unfold sortWorldK grow putRowK putRow mapBlock
      simp [Sort.ahead]
    · unfold sortWorldK grow putRowK putRow mapBlock
      have hkm : k < ((Sort.ahead w n).heap.modify g (onCells (putCells id 0 (flatK bc 2 d')))).size := by simp [Sort.ahead]; exact hk
      show (((Sort.ahead w n).heap.modify g (onCells (putCells id 0 (flatK bc 2 d')))) ++ os)[k]? = _
      rw [Array.getElem?_append_left hkm, Array.getElem?_modify, if_neg (fun e => hne e.symm)]
      rfl
end Go.Proofs.Ytgidbmiahckleaa
