/- The sort of Of: by the library's own contract. -/
import Derived.Test.YthlkbijpphdblaaJ7
import Derived.Test.YthlkbijpphdblaaMm
namespace Go.Proofs.Ythlkbijpphdblaa
open Go.RowKit Go.Sort
set_option linter.unusedVariables false

def cfR (x y : Rg) : Int := if x.1 < y.1 then -1 else if y.1 < x.1 then 1 else 0
theorem lt_iff {x y : Rg} : ltOf cfR x y = decide (x.1 < y.1) := by
  unfold ltOf cfR
  rw [Bool.eq_iff_iff, decide_eq_true_eq, decide_eq_true_eq]
  split
  · simp_all
  · split <;> simp_all
theorem lt_no {x y : Rg} (h : ltOf cfR x y = false) : y.1 ≤ x.1 := by
  rw [lt_iff] at h
  simpa using h
theorem swoR : SWO (ltOf cfR) where
  irrefl x := by rw [lt_iff]; simp
  trans x y z h1 h2 := by
    rw [lt_iff] at *
    simp only [decide_eq_true_eq] at *
    omega
  ntrans x y z h1 h2 := by
    rw [lt_iff] at *
    simp only [decide_eq_false_iff_not] at *
    omega
theorem nan_p (x : Int) (w : World) : Calls Try.prog 57 #[.int .i32 x] w fun e w' => e = .returned (.bool false) ∧ w' = w := by
  go_enter Try.func57, Try.ntmps57
  go_wp2
  go_ret
  exact ⟨rfl, rfl⟩
theorem cmp_p (x y : Int) (w : World) : Calls Try.prog 50 #[.int .i32 x, .int .i32 y] w fun e w' => e = .returned (.int .i64 (if x < y then -1 else if y < x then 1 else 0)) ∧ w' = w := by
  have q := fun z => nan_p z w
  by_cases h1 : x < y
  · rw [if_pos h1]
    go_enter Try.func50, Try.ntmps50
    go_wp2_with (go_at_call 57; refine Calls.mono (q _) ?_; rintro e w' ⟨rfl, rfl⟩)
    go_ret
    exact ⟨rfl, rfl⟩
  · rw [if_neg h1]
    by_cases h2 : y < x
    · rw [if_pos h2]
      go_enter Try.func50, Try.ntmps50
      go_wp2_with (go_at_call 57; refine Calls.mono (q _) ?_; rintro e w' ⟨rfl, rfl⟩)
      go_ret
      exact ⟨rfl, rfl⟩
    · rw [if_neg h2]
      go_enter Try.func50, Try.ntmps50
      go_wp2_with (go_at_call 57; refine Calls.mono (q _) ?_; rintro e w' ⟨rfl, rfl⟩)
      go_ret
      exact ⟨rfl, rfl⟩
set_option maxHeartbeats 1000000 in
theorem clo (x y : Rg) (W : World) : Calls Try.prog 49 #[.agg #[.int .i32 x.1, .int .i32 x.2], .agg #[.int .i32 y.1, .int .i32 y.2]] W fun e w' => e = .returned (.int .i64 (cfR x y)) ∧ ∃ q os', w' = grow (W.drewN q) os' := by
  have hcon := fun W' => cmp_p x.1 y.1 W'
  have e : cfR x y = if x.1 < y.1 then -1 else if y.1 < x.1 then 1 else 0 := rfl
  generalize (if x.1 < y.1 then (-1 : Int) else if y.1 < x.1 then 1 else 0) = r at hcon e
  rw [e]
  go_enter Try.func49, Try.ntmps49
  go_wp2_with (go_at_call 50; refine (hcon _).mono ?_; rintro e w' ⟨rfl, rfl⟩)
  go_ret
  exact ⟨rfl, 0, _, by rw [alloc_eq_grow, alloc_eq_grow, grow_grow]; rfl⟩
theorem ecf_get : ∀ (l : List Rg) (t : Nat), t < l.length * 2 → (l.flatMap (ec .i32))[t]? = some ((ec .i32 l.toArray[t / 2]!)[t % 2]!)
  | [], t, h => by simp at h
  | p :: l, 0, h => by simp [ec]
  | p :: l, 1, h => by simp [ec]
  | p :: l, t + 2, h => by
    have ih := ecf_get l t (by simp at h; omega)
    rw [List.flatMap_cons, List.getElem?_append_right (by simp [ec])]
    have e1 : t + 2 - (ec .i32 p).length = t := by simp [ec]
    have e2 : (t + 2) / 2 = t / 2 + 1 := by omega
    have e3 : (t + 2) % 2 = t % 2 := by omega
    rw [e1, ih, e2, e3]
    simp
theorem addr_add0 (g j : Nat) : Addr.add ⟨g, 0, none⟩ j = ⟨g, j, none⟩ := by unfold Addr.add; split <;> simp_all
theorem holds_row {w : World} {base g cap : Nat} {l : List Rg} (h : w.ownsRow base 64 2 (.slice (some ⟨g, 0, none⟩) l.length cap) l.length (l.flatMap (ec .i32))) : HoldsK (ec .i32) 2 w g 0 l.toArray := by
  intro j hj
  rw [size_flatK, List.size_toArray] at hj
  have hc := h.cells (g := g) rfl j _ (ecf_get l j hj)
  rw [addr_add0] at hc
  rw [get_flatK _ _ _ _ (by rw [List.size_toArray]; exact hj), Nat.zero_add]
  refine ⟨hc, ?_⟩
  rcases h.2 with ⟨e, _⟩ | ⟨g', cap', cur, e, _, hg, _⟩
  · simp at e
  · simp at e
    obtain ⟨rfl, rfl⟩ := e
    simp [World.frozen?, hg]
theorem sort_ok (l : List Rg) (g cap base : Nat) (w : World) (hrow : w.ownsRow base 64 2 (.slice (some ⟨g, 0, none⟩) l.length cap) l.length (l.flatMap (ec .i32))) (hl : l.length ≤ 1000000) :
    Calls Try.prog 48 #[.slice (some ⟨g, 0, none⟩) l.length cap, .func (.func 49) #[] #[]] w fun e w' => e = .returned (.tuple #[]) ∧ ∃ l' : List Rg, l'.Perm l ∧ l'.Pairwise (fun a b => a.1 ≤ b.1) ∧ w'.ownsRow base 64 2 (.slice (some ⟨g, 0, none⟩) l.length cap) l.length (l'.flatMap (ec .i32)) ∧ Fro (fun k => k = g) w w' := by
  have hH := holds_row hrow
  obtain ⟨hlen, hd⟩ := hrow
  rcases hd with ⟨e, _⟩ | ⟨g', cap', cur, e, hbg, hg, hnc, hcm, hcs, htk⟩
  · simp at e
  simp at e
  obtain ⟨rfl, rfl⟩ := e
  have hblk := lt_of hg
  have eg : ∀ args w, (callFunc 49 args).run Try.prog w = .ok (.enter 49 args) w := enters_of Try.func49 (by kernel_rfl) rfl
  have hcl : CmpLays Try.prog 49 #[] (ec .i32) 2 cfR g 0 l.toArray.size w := fun _ _ _ _ x y => clo x y _
  have hcon := AnyQ.slices_SortFunc sortB 2 Try.isAgg64 Try.sizeOf64 (ec .i32) (fun _ => rfl) (fun x v hv => by simp [ec] at hv; rcases hv with rfl | rfl <;> rfl) cfR swoR 49 #[] g 0 cap l.toArray w eg hcl hH hblk (by rw [List.size_toArray]; omega)
  change Calls Try.prog 48 _ _ _ at hcon
  rw [List.size_toArray] at hcon
  refine hcon.mono ?_
  rintro e w' ⟨rfl, d', n, os, hp, hs, rfl⟩
  obtain ⟨p0, p2, p3⟩ := hp
  have p1 : d'.size = l.length := by simpa using p0
  clear p0
  have hdl : d'.toList.length = l.length := by rw [Array.length_toList]; exact p1
  refine ⟨rfl, d'.toList, ?_, ?_, ?_, ?_⟩
  · have e1 : d'.extract 0 l.length = d' := by rw [← p1]; simp
    have e2 : l.toArray.extract 0 l.length = l.toArray := by simp
    rw [e1, e2] at p3
    exact p3
  · rw [List.pairwise_iff_getElem]
    intro i j hi hj hij
    have := hs i j (Nat.zero_le _) hij (by omega)
    have this := lt_no this
    rw [Array.length_toList] at hi hj
    rw [getElem!_pos d' i hi, getElem!_pos d' j hj] at this
    simpa using this
  · have hX : (sortWorldK (ec .i32) 2 w g 0 n d' os).heap[g]? = some (.cells (putCells id 0 (flatK (ec .i32) 2 d') cur) 64 (0, 0)) := by
      unfold sortWorldK grow putRowK putRow mapBlock
      have h1 : ((Sort.ahead w n).heap.modify g (onCells (putCells id 0 (flatK (ec .i32) 2 d'))))[g]? = some (.cells (putCells id 0 (flatK (ec .i32) 2 d') cur) 64 (0, 0)) := by
        rw [Array.getElem?_modify, if_pos rfl]
        show Option.map _ w.heap[g]? = _
        rw [hg]
        rfl
      rw [Array.getElem?_append_left (lt_of (w := { w with heap := (Sort.ahead w n).heap.modify g (onCells (putCells id 0 (flatK (ec .i32) 2 d'))) }) h1)]
      exact h1
    refine ⟨by rw [ec_len .i32, hdl], .inr ⟨g, cap, _, rfl, hbg, hX, hnc, hcm, by unfold putCells; simp [hcs], ?_⟩⟩
    apply List.ext_getElem?
    intro t
    rw [List.getElem?_take]
    by_cases ht : t < l.length * 2
    · rw [if_pos ht, ecf_get _ _ (by rw [hdl]; exact ht)]
      have htc : t < cur.size := by rw [hcs]; omega
      have hf : (flatK (ec .i32) 2 d').size = l.length * 2 := by rw [size_flatK, p1]
      unfold putCells
      rw [Array.getElem?_toList, Array.getElem?_mapIdx, Array.getElem?_eq_getElem htc]
      simp only [Option.map_some, Nat.zero_le, Nat.zero_add, true_and, Nat.sub_zero]
      rw [if_pos (by rw [hf]; exact ht), get_flatK _ _ _ _ (by rw [p1]; exact ht)]
      rfl
    · rw [if_neg ht, List.getElem?_eq_none (by rw [ec_len .i32, hdl]; omega)]
  · refine ⟨rfl, rfl, rfl, ?_, fun k hk hne => ?_⟩
    · unfold sortWorldK grow putRowK putRow mapBlock
      simp [Sort.ahead]
    · unfold sortWorldK grow putRowK putRow mapBlock
      have hkm : k < ((Sort.ahead w n).heap.modify g (onCells (putCells id 0 (flatK (ec .i32) 2 d')))).size := by simp [Sort.ahead]; exact hk
      show (((Sort.ahead w n).heap.modify g (onCells (putCells id 0 (flatK (ec .i32) 2 d')))) ++ os)[k]? = _
      rw [Array.getElem?_append_left hkm, Array.getElem?_modify, if_neg (fun e => hne e.symm)]
      rfl
end Go.Proofs.Ythlkbijpphdblaa
