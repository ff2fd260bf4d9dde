/- Joined: HK1, HK2. -/
import Derived.Test.YtgaegajcejpmdaaGreatDoorProg
import Derived.Test.YtgaegajcejpmdaaGreatDoorHK0
import Derived.WalkKit
import Derived.WalkSpells
import Derived.WalkLawsBesides
import Derived.Below
import Derived.MapKept
import Derived.Carry
namespace Go.Proofs.YtgaegajcejpmdaaGreatDoor
open Go.RowKit
set_option linter.unusedVariables false

theorem ret_i {a b : Int} (h : a = b) : Ending.returned (.int .i64 a) = .returned (.int .i64 b) := by rw [h]
theorem ret_b {a b : Bool} (h : a = b) : Ending.returned (.bool a) = .returned (.bool b) := by rw [h]
theorem known_k (k : Int) (w : World) : Calls Tryz.prog 33 #[.int .i64 k] w fun e w' => e = .returned (.bool (isK k)) ∧ w' = w := by
  by_cases h1 : 1 ≤ k
  · have e : isK k = decide (k ≤ 32) := by simp [isK, h1]
    go_enter Tryz.func33, Tryz.ntmps33
    go_wp2
    all_goals
      go_ret
      refine ⟨ret_b ?_, rfl⟩
      first | rw [e] | rfl
  · have e : isK k = false := by simp [isK, h1]
    go_enter Tryz.func33, Tryz.ntmps33
    go_wp2
    all_goals
      go_ret
      refine ⟨ret_b ?_, rfl⟩
      first | rw [e] | rfl
theorem is_k (k : Int) (w : World) : Calls Tryz.prog 35 #[.int .i64 k] w fun e w' => e = .returned (.bool (isK k)) ∧ w' = w := by
  by_cases h1 : 1 ≤ k
  · have e : isK k = decide (k ≤ 32) := by simp [isK, h1]
    go_enter Tryz.func35, Tryz.ntmps35
    go_wp2
    all_goals
      go_ret
      refine ⟨ret_b ?_, rfl⟩
      first | rw [e] | rfl
  · have e : isK k = false := by simp [isK, h1]
    go_enter Tryz.func35, Tryz.ntmps35
    go_wp2
    all_goals
      go_ret
      refine ⟨ret_b ?_, rfl⟩
      first | rw [e] | rfl
set_option maxHeartbeats 1000000 in
theorem base_k (k : Int) (w : World) : Calls Tryz.prog 13 #[.int .i64 k] w fun e w' => e = .returned (.int .i64 (bsS k)) ∧ w' = w := by
  by_cases h : 1 ≤ k ∧ k ≤ 23
  · obtain ⟨n, rfl⟩ : ∃ n : Nat, k = n := ⟨k.toNat, by omega⟩
    have hn : n < 24 := by omega
    have hn1 : 1 ≤ n := by omega
    clear h
    rcases (by omega : n = 1 ∨ n = 2 ∨ n = 3 ∨ n = 4 ∨ n = 5 ∨ n = 6 ∨ n = 7 ∨ n = 8 ∨ n = 9 ∨ n = 10 ∨ n = 11 ∨ n = 12 ∨ n = 13 ∨ n = 14 ∨ n = 15 ∨ n = 16 ∨ n = 17 ∨ n = 18 ∨ n = 19 ∨ n = 20 ∨ n = 21 ∨ n = 22 ∨ n = 23) with rfl | rfl | rfl | rfl | rfl | rfl | rfl | rfl | rfl | rfl | rfl | rfl | rfl | rfl | rfl | rfl | rfl | rfl | rfl | rfl | rfl | rfl | rfl
    all_goals
      go_enter Tryz.func13, Tryz.ntmps13
      go_wp2
      go_ret
      exact ⟨rfl, rfl⟩
  · have e : bsS k = 0 := by
      by_cases hk : isK k = true
      · obtain ⟨n, rfl, h1, h2⟩ := isK_nat hk
        have : n = 24 ∨ n = 25 ∨ n = 26 ∨ n = 27 ∨ n = 28 ∨ n = 29 ∨ n = 30 ∨ n = 31 ∨ n = 32 := by omega
        rcases this with rfl | rfl | rfl | rfl | rfl | rfl | rfl | rfl | rfl <;> rfl
      · exact isK_nb (by simpa using hk)
    have f2 : (k == 2) = false := by simp; omega
    have f3 : (k == 3) = false := by simp; omega
    have f4 : (k == 4) = false := by simp; omega
    have f5 : (k == 5) = false := by simp; omega
    have f6 : (k == 6) = false := by simp; omega
    have f7 : (k == 7) = false := by simp; omega
    have f8 : (k == 8) = false := by simp; omega
    have f11 : (k == 11) = false := by simp; omega
    have f12 : (k == 12) = false := by simp; omega
    have f13 : (k == 13) = false := by simp; omega
    have f14 : (k == 14) = false := by simp; omega
    have f15 : (k == 15) = false := by simp; omega
    have f16 : (k == 16) = false := by simp; omega
    have f17 : (k == 17) = false := by simp; omega
    have f18 : (k == 18) = false := by simp; omega
    have f19 : (k == 19) = false := by simp; omega
    have f20 : (k == 20) = false := by simp; omega
    have f21 : (k == 21) = false := by simp; omega
    have f22 : (k == 22) = false := by simp; omega
    have f23 : (k == 23) = false := by simp; omega
    clear h
    go_enter Tryz.func13, Tryz.ntmps13
    go_wp2
    go_ret
    exact ⟨ret_i e.symm, rfl⟩
theorem prim_k (k : Int) (w : World) : Calls Tryz.prog 15 #[.int .i64 k] w fun e w' => e = .returned (.int .i64 (prS k)) ∧ w' = w := by
  by_cases hk : isK k = true
  · have HK : Hid _ := hk
    go_enter Tryz.func15, Tryz.ntmps15
    go_wp2_with (go_at_call 33; refine (known_k _ _).mono ?_; rintro e w' ⟨rfl, hw⟩; have hw2 := hw.symm; clear hw; subst hw2)
    go_loopw [0] (fun i wr => wr = w ∧ ∃ j : Int, i = .int .i64 j ∧ isK j = true ∧ prS j = prS k) (fun i _ => (intOf i).toNat)
    case atStart => exact ⟨rfl, k, rfl, HK.out, rfl⟩
    case round =>
      obtain ⟨rfl, j, rfl, hj, hp⟩ := hrel
      have HP : Hid _ := hp
      have HJ : Hid _ := hj
      obtain ⟨b0, b1, b2⟩ := bs_bd j
      have hlt : Hid _ := b2 hj
      clear hp hj b2
      by_cases hb : bsS j = 0
      · have hbb : (bsS j != 0) = false := by simp [hb]
        have HB : Hid _ := pr_top HJ.out hb
        clear hb
        go_wp2_with (go_at_call 13; refine (base_k _ _).mono ?_; rintro e w' ⟨rfl, rfl⟩)
        go_ret
        exact ⟨ret_i (by rw [← HP.out, HB.out]), rfl⟩
      · have hbb : (bsS j != 0) = true := by simp [hb]
        have HB : Hid _ := pr_up HJ.out hb
        have hj1 : Hid _ := isK_iff.1 HJ.out
        clear hb
        go_wp2_with (go_at_call 13; refine (base_k _ _).mono ?_; rintro e w' ⟨rfl, rfl⟩)
        go_roundw
        case rel => exact ⟨trivial, _, rfl, HB.out.2, HB.out.1.trans HP.out⟩
        case measure => have := hlt.out; have := hj1.out; simp [intOf]; omega
  · have hk' : isK k = false := by simpa using hk
    have HE : Hid _ := pr_no hk'
    clear hk
    go_enter Tryz.func15, Tryz.ntmps15
    go_wp2_with (go_at_call 33; refine (known_k _ _).mono ?_; rintro e w' ⟨rfl, rfl⟩)
    go_ret
    first | exact ⟨ret_i HE.out.symm, rfl⟩ | exact ⟨ret_i HE.out.symm, trivial⟩
theorem white_k (k : Int) (w : World) : Calls Tryz.prog 17 #[.int .i64 k] w fun e w' => e = .returned (.int .i64 (whS k)) ∧ w' = w := by
  by_cases hk : isK k = true
  · have HE : Hid (whS k = if k = 1 then 1 else if k = 2 then 2 else 3) := by show _ = _; unfold whS; rw [if_pos hk]
    rcases (by omega : k = 1 ∨ k = 2 ∨ (k ≠ 1 ∧ k ≠ 2)) with rfl | rfl | ⟨h1, h2⟩
    · go_enter Tryz.func17, Tryz.ntmps17
      go_wp2_with (go_at_call 33; refine (known_k _ _).mono ?_; rintro e w' ⟨rfl, rfl⟩)
      go_ret
      exact ⟨ret_i HE.out.symm, rfl⟩
    · go_enter Tryz.func17, Tryz.ntmps17
      go_wp2_with (go_at_call 33; refine (known_k _ _).mono ?_; rintro e w' ⟨rfl, rfl⟩)
      go_ret
      exact ⟨ret_i HE.out.symm, rfl⟩
    · have HE2 : Hid (whS k = 3) := by show _ = _; rw [HE.out, if_neg h1, if_neg h2]
      have f1 : (k == 1) = false := by simpa using h1
      have f2 : (k == 2) = false := by simpa using h2
      clear h1 h2
      go_enter Tryz.func17, Tryz.ntmps17
      go_wp2_with (go_at_call 33; refine (known_k _ _).mono ?_; rintro e w' ⟨rfl, rfl⟩)
      go_ret
      exact ⟨ret_i HE2.out.symm, rfl⟩
  · have hk' : isK k = false := by simpa using hk
    have HE : Hid (whS k = 0) := by show _ = _; unfold whS; rw [if_neg hk]
    clear hk
    go_enter Tryz.func17, Tryz.ntmps17
    go_wp2_with (go_at_call 33; refine (known_k _ _).mono ?_; rintro e w' ⟨rfl, rfl⟩)
    go_ret
    exact ⟨ret_i HE.out.symm, rfl⟩
theorem white_r (k : Int) (w : World) : Calls Tryz.prog 18 #[.int .i64 k] w fun e w' => e = .returned (.int .i64 (whS k)) ∧ w' = w := by
  by_cases hk : isK k = true
  · have HE : Hid (whS k = if k = 1 then 1 else if k = 2 then 2 else 3) := by show _ = _; unfold whS; rw [if_pos hk]
    rcases (by omega : k = 1 ∨ k = 2 ∨ (k ≠ 1 ∧ k ≠ 2)) with rfl | rfl | ⟨h1, h2⟩
    · go_enter Tryz.func18, Tryz.ntmps18
      go_wp2_with (go_at_call 35; refine (is_k _ _).mono ?_; rintro e w' ⟨rfl, rfl⟩)
      go_ret
      exact ⟨ret_i HE.out.symm, rfl⟩
    · go_enter Tryz.func18, Tryz.ntmps18
      go_wp2_with (go_at_call 35; refine (is_k _ _).mono ?_; rintro e w' ⟨rfl, rfl⟩)
      go_ret
      exact ⟨ret_i HE.out.symm, rfl⟩
    · have HE2 : Hid (whS k = 3) := by show _ = _; rw [HE.out, if_neg h1, if_neg h2]
      have f1 : (k == 1) = false := by simpa using h1
      have f2 : (k == 2) = false := by simpa using h2
      clear h1 h2
      go_enter Tryz.func18, Tryz.ntmps18
      go_wp2_with (go_at_call 35; refine (is_k _ _).mono ?_; rintro e w' ⟨rfl, rfl⟩)
      go_ret
      exact ⟨ret_i HE2.out.symm, rfl⟩
  · have hk' : isK k = false := by simpa using hk
    have HE : Hid (whS k = 0) := by show _ = _; unfold whS; rw [if_neg hk]
    clear hk
    go_enter Tryz.func18, Tryz.ntmps18
    go_wp2_with (go_at_call 35; refine (is_k _ _).mono ?_; rintro e w' ⟨rfl, rfl⟩)
    go_ret
    exact ⟨ret_i HE.out.symm, rfl⟩
def dMs (i : Int) : Nat := if isK i = true then i.toNat else if i = 0 then 0 else 40
theorem derived_k (k fr : Int) (w : World) : Calls Tryz.prog 19 #[.int .i64 k, .int .i64 fr] w fun e w' => e = .returned (.bool (dvS k fr)) ∧ w' = w := by
  by_cases hk : isK fr = true
  · have HK : Hid _ := hk
    have hf1 : 1 ≤ fr := (isK_iff.1 hk).1
    go_enter Tryz.func19, Tryz.ntmps19
    go_wp2_with (go_at_call 33; refine (known_k _ _).mono ?_; rintro e w' ⟨rfl, hw⟩; have hw2 := hw.symm; clear hw; subst hw2)
    go_loopw [0] (fun i wr => wr = w ∧ ∃ (j : Int) (n : Nat), i = .int .i64 j ∧ (isK j = true → j < n) ∧ 1 ≤ n ∧ dvF n j fr = dvS k fr) (fun i _ => dMs (intOf i))
    case atStart =>
      refine ⟨rfl, k, 40, rfl, fun q => ?_, by omega, rfl⟩
      have := isK_iff.1 q
      omega
    case round =>
      obtain ⟨rfl, j, n, rfl, hj, hn, hp⟩ := hrel
      obtain ⟨n, rfl⟩ : ∃ m, n = m + 1 := ⟨n - 1, by omega⟩
      have HP : Hid _ := hp
      obtain ⟨b0, b1, b2⟩ := bs_bd j
      have HB2 : Hid _ := b2
      have HJ : Hid _ := hj
      clear hp hj b2 hn
      by_cases hjf : j = fr
      · have HD : Hid (dvF (n + 1) j fr = true) := by show _ = _; rw [dvF, if_pos (by rw [hjf]; exact HK.out), if_pos hjf]
        subst hjf
        go_wp2_with fail
        go_ret
        exact ⟨ret_b (by rw [← HP.out, HD.out]), rfl⟩
      · have hjf1 : (j == fr) = false := by simpa using hjf
        have hjf2 : (j != fr) = true := by simpa using hjf
        by_cases hj0 : j = 0
        · have HD : Hid (dvF (n + 1) j fr = false) := by show _ = _; rw [dvF, if_neg (by rw [hj0]; decide)]
          subst hj0
          clear hjf
          go_wp2_with fail
          go_ret
          exact ⟨ret_b (by rw [← HP.out, HD.out]), rfl⟩
        · have hj2 : (j != 0) = true := by simpa using hj0
          have HD : Hid (dvF (n + 1) j fr = if isK j = true then dvF n (bsS j) fr else false) := by show _ = _; rw [dvF, if_neg hjf]
          have HJ0 : Hid _ := hj0
          clear hjf hj0
          go_wp2_with (go_at_call 13; refine (base_k _ _).mono ?_; rintro e w' ⟨rfl, rfl⟩)
          go_roundw
          case rel =>
            by_cases hk : isK j = true
            · have h1 := HB2.out hk
              have h2 := HJ.out hk
              have h3 := isK_iff.1 hk
              refine ⟨trivial, _, n, rfl, fun _ => by omega, by omega, ?_⟩
              rw [← HP.out, HD.out, if_pos hk]
            · have h1 : bsS j = 0 := isK_nb (by simpa using hk)
              refine ⟨trivial, _, 1, rfl, fun _ => by omega, by omega, ?_⟩
              rw [← HP.out, HD.out, if_neg hk, h1]
              rfl
          case measure =>
            show dMs (bsS j) < dMs j
            unfold dMs
            by_cases hk : isK j = true
            · have h1 := HB2.out hk
              have h3 := isK_iff.1 hk
              rw [if_pos hk]
              split
              · omega
              · split
                · omega
                · rename_i q1 q2
                  exact absurd (isK_iff.2 (by omega)) q1
            · have h1 : bsS j = 0 := isK_nb (by simpa using hk)
              rw [if_neg hk, h1, if_neg (by decide), if_neg HJ0.out]
              simp
  · have hk' : isK fr = false := by simpa using hk
    have HE : Hid (dvS k fr = false) := by
      show _ = _
      unfold dvS
      generalize 40 = n
      induction n generalizing k with
      | zero => rfl
      | succ n ih =>
        rw [dvF]
        split
        · rename_i q
          rw [if_neg (fun q2 => by rw [q2] at q; exact hk q)]
          exact ih _
        · rfl
    clear hk
    go_enter Tryz.func19, Tryz.ntmps19
    go_wp2_with (go_at_call 33; refine (known_k _ _).mono ?_; rintro e w' ⟨rfl, rfl⟩)
    go_ret
    first | exact ⟨ret_b HE.out.symm, rfl⟩ | exact ⟨ret_b HE.out.symm, trivial⟩
end Go.Proofs.YtgaegajcejpmdaaGreatDoor
namespace Go.Proofs.YtgaegajcejpmdaaGreatDoor
open Go.RowKit
set_option linter.unusedVariables false

theorem nw_heap (w : World) (o : Obj) : (w.alloc o).heap[w.heap.size]? = some o := (Go.MapKept.heap_alloc w o).1
theorem row_cell {w : World} {B j : Nat} {cs : Array Value} {t : TypeId} {f : Nat × Nat} (h : w.heap[B]? = some (.cells cs t f)) : w.cell? ⟨B, j, none⟩ = cs[j]? := cell_of_row w B j cs t f h
theorem map_at {α : Type} {f : α → Value} {l : List α} {d : α} {j : Nat} (h : j < l.length) : (l.map f).toArray[j]? = some (f (l.getD j d)) := by
  simp [h]
def NmP (w : World) (e : Ending) (w' : World) : Prop := ∃ B, e = .returned (.slice (some ⟨B, 0, none⟩) 33 33) ∧ w.heap.size ≤ B ∧ (∀ j, j < 33 → w'.cell? ⟨B, j, none⟩ = some (.string (nmL.getD j ⟨#[]⟩))) ∧ Below w.heap.size w w'
theorem names_r (w : World) : Calls Tryz.prog 34 #[] w (NmP w) := by
  go_enter Tryz.func34, Tryz.ntmps34
  go_wp2
  go_ret
  refine ⟨w.heap.size, rfl, Nat.le_refl _, fun j hj => ?_, (Below.refl _ _).alloc (Nat.le_refl _) _⟩
  rw [row_cell (nw_heap w _)]
  exact map_at (f := Value.string) (l := nmL) (d := ⟨#[]⟩) (by exact hj)
theorem nm_at {k : Int} (h : isK k = true) : ∃ n : Nat, k = n ∧ n < 33 ∧ nmL.getD n ⟨#[]⟩ = nmS k := by
  obtain ⟨n, rfl, h1, h2⟩ := isK_nat h
  refine ⟨n, rfl, by omega, ?_⟩
  unfold nmS
  rw [if_pos h]
  rfl
theorem name_r (k : Int) (w : World) : Calls Tryz.prog 12 #[.int .i64 k] w fun e w' => e = .returned (.string (nmS k)) ∧ Below w.heap.size w w' := by
  by_cases hk : isK k = true
  · obtain ⟨n, rfl, hn, hb⟩ := nm_at hk
    have HB : Hid _ := hb
    clear hb
    go_enter Tryz.func12, Tryz.ntmps12
    go_wp2_with (first | (go_at_call 35; refine (is_k _ _).mono ?_; rintro e w' ⟨rfl, rfl⟩) | (go_at_call 34; refine (names_r _).mono ?_; rintro e w2 ⟨B, rfl, hB, hc, hbel⟩; have HL : Hid _ := hbel; have hcn := hc n hn; rw [HB.out] at hcn; clear hc hbel))
    go_ret
    exact ⟨rfl, HL.out⟩
  · have hk' : isK k = false := by simpa using hk
    have HE : Hid (nmS k = ⟨#[]⟩) := by show _ = _; unfold nmS; rw [if_neg hk]
    clear hk
    go_enter Tryz.func12, Tryz.ntmps12
    go_wp2_with (go_at_call 35; refine (is_k _ _).mono ?_; rintro e w' ⟨rfl, rfl⟩)
    go_ret
    refine ⟨?_, Below.refl _ _⟩
    rw [HE.out]
    rfl
end Go.Proofs.YtgaegajcejpmdaaGreatDoor
