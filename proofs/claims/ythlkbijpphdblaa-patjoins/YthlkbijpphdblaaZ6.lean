/- Joined: P1, Lay, Srt. -/
import Derived.Test.YthlkbijpphdblaaMm
import Derived.Shelf.SlSortCmp.WholeK
import Derived.Test.YthlkbijpphdblaaProg
namespace Go.Proofs.Ythlkbijpphdblaa
open Go.RowKit
set_option linter.unusedVariables false

abbrev rV (r : Rg) : Value := .agg #[.int .i32 r.1, .int .i32 r.2]
/-- A range within the letters. -/
theorem side_p (r : Rg) (x : Int) (w : World) : Calls Try.prog 28 #[rV r, .int .i32 x] w fun e w' => e = .returned (.int .i64 (if r.2 < x then -1 else if x < r.1 then 1 else 0)) ∧ Below w.heap.size w w' := by
  by_cases h1 : r.2 < x
  · rw [if_pos h1]
    go_enter Try.func28, Try.ntmps28
    go_wp2
    go_ret
    exact ⟨rfl, (Below.refl _ _).alloc (Nat.le_refl _) _⟩
  · rw [if_neg h1]
    by_cases h2 : x < r.1
    · rw [if_pos h2]
      go_enter Try.func28, Try.ntmps28
      go_wp2
      go_ret
      exact ⟨rfl, (Below.refl _ _).alloc (Nat.le_refl _) _⟩
    · rw [if_neg h2]
      go_enter Try.func28, Try.ntmps28
      go_wp2
      go_ret
      exact ⟨rfl, (Below.refl _ _).alloc (Nat.le_refl _) _⟩
set_option maxHeartbeats 800000 in
theorem size_p (v : Value) (l : List Rg) (w : World) (h : Sl .i32 w v l) (hc : Cn l) (hn : l.length ≤ 1000000) : Calls Try.prog 12 #[v] w fun e w' => e = .returned (.int .i64 (sz l)) ∧ Below w.heap.size w w' := by
  obtain ⟨a, cap, rfl, hcap, h⟩ := h
  have HX : Hid _ := And.intro h hc
  clear h hc
  go_enter Try.func12, Try.ntmps12
  go_wp2_with fail
  go_loopg [3, 8] l.length (fun g v3 v8 wr => ∃ k : Nat, k + g = l.length ∧ v8 = .int .i64 (k : Int) ∧ v3 = .int .i64 (sz (l.take k)) ∧ Below w.heap.size w wr)
  case atStart => exact ⟨0, by omega, rfl, rfl, Below.refl _ _⟩
  case round =>
    obtain ⟨k, hk, rfl, rfl, hb⟩ := hrel
    have HB : Hid _ := hb
    clear hb
    by_cases hlt : k < l.length
    · obtain ⟨g, rfl⟩ : ∃ g, gk = g + 1 := ⟨gk - 1, by omega⟩
      rcases HX.out.1 with hx | ⟨b, off, rfl, hbl, hx⟩
      · rw [hx] at hlt; simp at hlt
      obtain ⟨c0, c1⟩ := hx k hlt
      have e0 := (HB.out.cell (p := ⟨b, off + k * 2, none⟩) hbl).trans c0
      have e1 := (HB.out.cell (p := ⟨b, off + k * 2 + 1, none⟩) hbl).trans c1
      have hs := sz_in (HX.out.2.take k)
      have hok := HX.out.2.ok l[k] (by simp)
      have HS : Hid _ := (by rw [take_snoc hlt, sz_snoc] : sz (l.take (k + 1)) = sz (l.take k) + (l[k].2 - l[k].1 + 1))
      generalize l[k] = r at *
      obtain ⟨r0, r1⟩ := r
      dsimp only at *
      obtain ⟨hs0, hs1⟩ := hs
      generalize sz (l.take k) = S at *
      clear c0 c1 hx
      have hM : MX = 1114111 := rfl
      obtain ⟨o1, o2, o3⟩ := hok
      have o3' : r1 ≤ 1114111 := o3
      clear hM o3
      go_wp2_with fail
      go_roundg g
      case measure => omega
      case rel => exact ⟨k + 1, by omega, by simp, by rw [HS.out], HB.out.alloc HB.out.size _⟩
    · have hkl : k = l.length := by omega
      subst hkl
      go_wp2_with fail
      go_ret
      exact ⟨by rw [List.take_length]; rfl, HB.out⟩
end Go.Proofs.Ythlkbijpphdblaa
namespace Go.Proofs
open Go.Shelf
def Ythlkbijpphdblaa.sortB_ren : Go.Shelf.Ren := ⟨fun | 6 => 48 | 15 => 56 | 14 => 55 | 28 => 69 | 29 => 70 | 20 => 61 | 21 => 62 | 22 => 63 | 23 => 64 | 24 => 65 | 25 => 66 | 26 => 67 | 27 => 68 | 46 => 79 | 47 => 80 | 48 => 81 | 49 => 82 | 50 => 83 | 57 => 91 | n => n, fun | 22 => 23 | 24 => 64 | 25 => 90 | 3 => 3 | 39 => 83 | 0 => 0 | 53 => 107 | 55 => 109 | 4 => 4 | 46 => 101 | 45 => 100 | 50 => 65 | 5 => 5 | 9 => 9 | 66 => 117 | 70 => 121 | 76 => 126 | 77 => 115 | n => n, fun | n => n⟩
theorem Ythlkbijpphdblaa.sortB : Go.Proofs.SlLaysF0.n6 Try.prog Ythlkbijpphdblaa.sortB_ren := {
  mixed := by kernel_rfl
  f6 := ⟨Try.f48.name, by decide, Try.func48.trans (congrArg some (by kernel_rfl))⟩
  f14 := ⟨Try.f55.name, by decide, Try.func55.trans (congrArg some (by kernel_rfl))⟩
  f15 := Try.func56.trans (congrArg some (by kernel_rfl))
  f20 := ⟨Try.f61.name, by decide, Try.func61.trans (congrArg some (by kernel_rfl))⟩
  f21 := ⟨Try.f62.name, by decide, Try.func62.trans (congrArg some (by kernel_rfl))⟩
  f22 := ⟨Try.f63.name, by decide, Try.func63.trans (congrArg some (by kernel_rfl))⟩
  f23 := ⟨Try.f64.name, by decide, Try.func64.trans (congrArg some (by kernel_rfl))⟩
  f24 := ⟨Try.f65.name, by decide, Try.func65.trans (congrArg some (by kernel_rfl))⟩
  f25 := ⟨Try.f66.name, by decide, Try.func66.trans (congrArg some (by kernel_rfl))⟩
  f26 := ⟨Try.f67.name, by decide, Try.func67.trans (congrArg some (by kernel_rfl))⟩
  f27 := ⟨Try.f68.name, by decide, Try.func68.trans (congrArg some (by kernel_rfl))⟩
  f28 := Try.func69.trans (congrArg some (by kernel_rfl))
  f29 := Try.func70.trans (congrArg some (by kernel_rfl))
  f46 := ⟨Try.f79.name, by decide, Try.func79.trans (congrArg some (by kernel_rfl))⟩
  f47 := Try.func80.trans (congrArg some (by kernel_rfl))
  f48 := Try.func81.trans (congrArg some (by kernel_rfl))
  f49 := ⟨Try.f82.name, by decide, Try.func82.trans (congrArg some (by kernel_rfl))⟩
  f50 := ⟨Try.f83.name, by decide, Try.func83.trans (congrArg some (by kernel_rfl))⟩
  f57 := ⟨Try.f91.name, by decide, Try.func91.trans (congrArg some (by kernel_rfl))⟩
  t0 := Try.underlying0
  a0 := Try.isAgg0
  z0 := Try.sizeOf0
  v0 := Try.zeroValue0
  t3 := Try.underlying3
  a3 := Try.isAgg3
  z3 := Try.sizeOf3
  v3 := Try.zeroValue3
  t4 := Try.underlying4
  a4 := Try.isAgg4
  z4 := Try.sizeOf4
  v4 := Try.zeroValue4
  t5 := Try.underlying5
  a5 := Try.isAgg5
  z5 := Try.sizeOf5
  v5 := Try.zeroValue5
  t9 := Try.underlying9
  a9 := Try.isAgg9
  z9 := Try.sizeOf9
  v9 := Try.zeroValue9
  t22 := Try.underlying23
  a22 := Try.isAgg23
  z22 := Try.sizeOf23
  v22 := Try.zeroValue23
  t25 := Try.underlying90
  a25 := Try.isAgg90
  z25 := Try.sizeOf90
  v25 := Try.zeroValue90
  t39 := Try.underlying83
  a39 := Try.isAgg83
  z39 := Try.sizeOf83
  v39 := Try.zeroValue83
  t45 := Try.underlying100
  a45 := Try.isAgg100
  z45 := Try.sizeOf100
  v45 := Try.zeroValue100
  t46 := Try.underlying101
  a46 := Try.isAgg101
  z46 := Try.sizeOf101
  v46 := Try.zeroValue101
  t50 := Try.underlying65
  a50 := Try.isAgg65
  z50 := Try.sizeOf65
  v50 := Try.zeroValue65
  t53 := Try.underlying107
  a53 := Try.isAgg107
  z53 := Try.sizeOf107
  v53 := Try.zeroValue107
  t55 := Try.underlying109
  a55 := Try.isAgg109
  z55 := Try.sizeOf109
  v55 := Try.zeroValue109
  t66 := Try.underlying117
  a66 := Try.isAgg117
  z66 := Try.sizeOf117
  v66 := Try.zeroValue117
  t70 := Try.underlying121
  a70 := Try.isAgg121
  z70 := Try.sizeOf121
  v70 := Try.zeroValue121
  t76 := Try.underlying126
  a76 := Try.isAgg126
  z76 := Try.sizeOf126
  v76 := Try.zeroValue126
  t77 := Try.underlying115
  a77 := Try.isAgg115
  z77 := Try.sizeOf115
  v77 := Try.zeroValue115 }
end Go.Proofs
namespace Go.Proofs.Ythlkbijpphdblaa
open Go.RowKit Go.Sort
set_option linter.unusedVariables false

def cfR (x y : Rg) : Int := if x.1 < y.1 then -1 else if y.1 < x.1 then 1 else 0
theorem lt_iff {x y : Rg} : ltOf cfR x y = decide (x.1 < y.1) := by
  unfold ltOf cfR
  rw [Bool.eq_iff_iff, decide_eq_true_eq, decide_eq_true_eq]
  split
  · simp_all
  · split <;> simp_all
theorem lt_no {x y : Rg} (h : ltOf cfR x y = false) : y.1 ≤ x.1 := by
  rw [lt_iff] at h
  simpa using h
theorem swoR : SWO (ltOf cfR) where
  irrefl x := by rw [lt_iff]; simp
  trans x y z h1 h2 := by
    rw [lt_iff] at *
    simp only [decide_eq_true_eq] at *
    omega
  ntrans x y z h1 h2 := by
    rw [lt_iff] at *
    simp only [decide_eq_false_iff_not] at *
    omega
theorem nan_p (x : Int) (w : World) : Calls Try.prog 57 #[.int .i32 x] w fun e w' => e = .returned (.bool false) ∧ w' = w := by
  go_enter Try.func57, Try.ntmps57
  go_wp2
  go_ret
  exact ⟨rfl, rfl⟩
theorem cmp_p (x y : Int) (w : World) : Calls Try.prog 50 #[.int .i32 x, .int .i32 y] w fun e w' => e = .returned (.int .i64 (if x < y then -1 else if y < x then 1 else 0)) ∧ w' = w := by
  have q := fun z => nan_p z w
  by_cases h1 : x < y
  · rw [if_pos h1]
    go_enter Try.func50, Try.ntmps50
    go_wp2_with (go_at_call 57; refine Calls.mono (q _) ?_; rintro e w' ⟨rfl, rfl⟩)
    go_ret
    exact ⟨rfl, rfl⟩
  · rw [if_neg h1]
    by_cases h2 : y < x
    · rw [if_pos h2]
      go_enter Try.func50, Try.ntmps50
      go_wp2_with (go_at_call 57; refine Calls.mono (q _) ?_; rintro e w' ⟨rfl, rfl⟩)
      go_ret
      exact ⟨rfl, rfl⟩
    · rw [if_neg h2]
      go_enter Try.func50, Try.ntmps50
      go_wp2_with (go_at_call 57; refine Calls.mono (q _) ?_; rintro e w' ⟨rfl, rfl⟩)
      go_ret
      exact ⟨rfl, rfl⟩
set_option maxHeartbeats 1000000 in
theorem clo (x y : Rg) (W : World) : Calls Try.prog 49 #[.agg #[.int .i32 x.1, .int .i32 x.2], .agg #[.int .i32 y.1, .int .i32 y.2]] W fun e w' => e = .returned (.int .i64 (cfR x y)) ∧ ∃ q os', w' = grow (W.drewN q) os' := by
  have hcon := fun W' => cmp_p x.1 y.1 W'
  have e : cfR x y = if x.1 < y.1 then -1 else if y.1 < x.1 then 1 else 0 := rfl
  generalize (if x.1 < y.1 then (-1 : Int) else if y.1 < x.1 then 1 else 0) = r at hcon e
  rw [e]
  go_enter Try.func49, Try.ntmps49
  go_wp2_with (go_at_call 50; refine (hcon _).mono ?_; rintro e w' ⟨rfl, rfl⟩)
  go_ret
  exact ⟨rfl, 0, _, by rw [alloc_eq_grow, alloc_eq_grow, grow_grow]; rfl⟩
theorem ecf_get : ∀ (l : List Rg) (t : Nat), t < l.length * 2 → (l.flatMap (ec .i32))[t]? = some ((ec .i32 l.toArray[t / 2]!)[t % 2]!)
  | [], t, h => by simp at h
  | p :: l, 0, h => by simp [ec]
  | p :: l, 1, h => by simp [ec]
  | p :: l, t + 2, h => by
    have ih := ecf_get l t (by simp at h; omega)
    rw [List.flatMap_cons, List.getElem?_append_right (by simp [ec])]
    have e1 : t + 2 - (ec .i32 p).length = t := by simp [ec]
    have e2 : (t + 2) / 2 = t / 2 + 1 := by omega
    have e3 : (t + 2) % 2 = t % 2 := by omega
    rw [e1, ih, e2, e3]
    simp
theorem addr_add0 (g j : Nat) : Addr.add ⟨g, 0, none⟩ j = ⟨g, j, none⟩ := by unfold Addr.add; split <;> simp_all
theorem holds_row {w : World} {base g cap : Nat} {l : List Rg} (h : w.ownsRow base 64 2 (.slice (some ⟨g, 0, none⟩) l.length cap) l.length (l.flatMap (ec .i32))) : HoldsK (ec .i32) 2 w g 0 l.toArray := by
  intro j hj
  rw [size_flatK, List.size_toArray] at hj
  have hc := h.cells (g := g) rfl j _ (ecf_get l j hj)
  rw [addr_add0] at hc
  rw [get_flatK _ _ _ _ (by rw [List.size_toArray]; exact hj), Nat.zero_add]
  refine ⟨hc, ?_⟩
  rcases h.2 with ⟨e, _⟩ | ⟨g', cap', cur, e, _, hg, _⟩
  · simp at e
  · simp at e
    obtain ⟨rfl, rfl⟩ := e
    simp [World.frozen?, hg]
theorem sort_ok (l : List Rg) (g cap base : Nat) (w : World) (hrow : w.ownsRow base 64 2 (.slice (some ⟨g, 0, none⟩) l.length cap) l.length (l.flatMap (ec .i32))) (hl : l.length ≤ 1000000) :
    Calls Try.prog 48 #[.slice (some ⟨g, 0, none⟩) l.length cap, .func (.func 49) #[] #[]] w fun e w' => e = .returned (.tuple #[]) ∧ ∃ l' : List Rg, l'.Perm l ∧ l'.Pairwise (fun a b => a.1 ≤ b.1) ∧ w'.ownsRow base 64 2 (.slice (some ⟨g, 0, none⟩) l.length cap) l.length (l'.flatMap (ec .i32)) ∧ Fro (fun k => k = g) w w' := by
  have hH := holds_row hrow
  obtain ⟨hlen, hd⟩ := hrow
  rcases hd with ⟨e, _⟩ | ⟨g', cap', cur, e, hbg, hg, hnc, hcm, hcs, htk⟩
  · simp at e
  simp at e
  obtain ⟨rfl, rfl⟩ := e
  have hblk := lt_of hg
  have eg : ∀ args w, (callFunc 49 args).run Try.prog w = .ok (.enter 49 args) w := enters_of Try.func49 (by kernel_rfl) rfl
  have hcl : CmpLays Try.prog 49 #[] (ec .i32) 2 cfR g 0 l.toArray.size w := fun _ _ _ _ x y => clo x y _
  have hcon := AnyQ.slices_SortFunc sortB 2 Try.isAgg64 Try.sizeOf64 (ec .i32) (fun _ => rfl) (fun x v hv => by simp [ec] at hv; rcases hv with rfl | rfl <;> rfl) cfR swoR 49 #[] g 0 cap l.toArray w eg hcl hH hblk (by rw [List.size_toArray]; omega)
  change Calls Try.prog 48 _ _ _ at hcon
  rw [List.size_toArray] at hcon
  refine hcon.mono ?_
  rintro e w' ⟨rfl, d', n, os, hp, hs, rfl⟩
  obtain ⟨p0, p2, p3⟩ := hp
  have p1 : d'.size = l.length := by simpa using p0
  clear p0
  have hdl : d'.toList.length = l.length := by rw [Array.length_toList]; exact p1
  refine ⟨rfl, d'.toList, ?_, ?_, ?_, ?_⟩
  · have e1 : d'.extract 0 l.length = d' := by rw [← p1]; simp
    have e2 : l.toArray.extract 0 l.length = l.toArray := by simp
    rw [e1, e2] at p3
    exact p3
  · rw [List.pairwise_iff_getElem]
    intro i j hi hj hij
    have := hs i j (Nat.zero_le _) hij (by omega)
    have this := lt_no this
    rw [Array.length_toList] at hi hj
    rw [getElem!_pos d' i hi, getElem!_pos d' j hj] at this
    simpa using this
  · have hX : (sortWorldK (ec .i32) 2 w g 0 n d' os).heap[g]? = some (.cells (putCells id 0 (flatK (ec .i32) 2 d') cur) 64 (0, 0)) := by
      unfold sortWorldK grow putRowK putRow mapBlock
      have h1 : ((Sort.ahead w n).heap.modify g (onCells (putCells id 0 (flatK (ec .i32) 2 d'))))[g]? = some (.cells (putCells id 0 (flatK (ec .i32) 2 d') cur) 64 (0, 0)) := by
        rw [Array.getElem?_modify, if_pos rfl]
        show Option.map _ w.heap[g]? = _
        rw [hg]
        rfl
      rw [Array.getElem?_append_left (lt_of (w := { w with heap := (Sort.ahead w n).heap.modify g (onCells (putCells id 0 (flatK (ec .i32) 2 d'))) }) h1)]
      exact h1
    refine ⟨by rw [ec_len .i32, hdl], .inr ⟨g, cap, _, rfl, hbg, hX, hnc, hcm, by unfold putCells; simp [hcs], ?_⟩⟩
    apply List.ext_getElem?
    intro t
    rw [List.getElem?_take]
    by_cases ht : t < l.length * 2
    · rw [if_pos ht, ecf_get _ _ (by rw [hdl]; exact ht)]
      have htc : t < cur.size := by rw [hcs]; omega
      have hf : (flatK (ec .i32) 2 d').size = l.length * 2 := by rw [size_flatK, p1]
      unfold putCells
      rw [Array.getElem?_toList, Array.getElem?_mapIdx, Array.getElem?_eq_getElem htc]
      simp only [Option.map_some, Nat.zero_le, Nat.zero_add, true_and, Nat.sub_zero]
      rw [if_pos (by rw [hf]; exact ht), get_flatK _ _ _ _ (by rw [p1]; exact ht)]
      rfl
    · rw [if_neg ht, List.getElem?_eq_none (by rw [ec_len .i32, hdl]; omega)]
  · refine ⟨rfl, rfl, rfl, ?_, fun k hk hne => ?_⟩
    · unfold sortWorldK grow putRowK putRow mapBlock
      simp [Sort.ahead]
    · unfold sortWorldK grow putRowK putRow mapBlock
      have hkm : k < ((Sort.ahead w n).heap.modify g (onCells (putCells id 0 (flatK (ec .i32) 2 d')))).size := by simp [Sort.ahead]; exact hk
      show (((Sort.ahead w n).heap.modify g (onCells (putCells id 0 (flatK (ec .i32) 2 d')))) ++ os)[k]? = _
      rw [Array.getElem?_append_left hkm, Array.getElem?_modify, if_neg (fun e => hne e.symm)]
      rfl
end Go.Proofs.Ythlkbijpphdblaa
