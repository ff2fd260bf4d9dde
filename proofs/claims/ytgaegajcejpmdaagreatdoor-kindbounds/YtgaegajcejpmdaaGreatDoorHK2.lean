/- The second telling's tables: names, bases, Base, Prim, Derived, Name. -/
import Derived.Test.YtgaegajcejpmdaaGreatDoorHK1
namespace Go.Proofs.YtgaegajcejpmdaaGreatDoor
open Go.RowKit
set_option linter.unusedVariables false

theorem nw_heap (w : World) (o : Obj) : (w.alloc o).heap[w.heap.size]? = some o := (Go.MapKept.heap_alloc w o).1
theorem row_cell {w : World} {B j : Nat} {cs : Array Value} {t : TypeId} {f : Nat × Nat} (h : w.heap[B]? = some (.cells cs t f)) : w.cell? ⟨B, j, none⟩ = cs[j]? := cell_of_row w B j cs t f h
theorem map_at {α : Type} {f : α → Value} {l : List α} {d : α} {j : Nat} (h : j < l.length) : (l.map f).toArray[j]? = some (f (l.getD j d)) := by
  simp [h]
/-- What bases answers: a row of numbers of its own. -/
def BsP (w : World) (e : Ending) (w' : World) : Prop := ∃ B, e = .returned (.slice (some ⟨B, 0, none⟩) 33 33) ∧ w.heap.size ≤ B ∧ (∀ j, j < 33 → w'.cell? ⟨B, j, none⟩ = some (.int .i64 (bsL.getD j 0))) ∧ Below w.heap.size w w'
def NmP (w : World) (e : Ending) (w' : World) : Prop := ∃ B, e = .returned (.slice (some ⟨B, 0, none⟩) 33 33) ∧ w.heap.size ≤ B ∧ (∀ j, j < 33 → w'.cell? ⟨B, j, none⟩ = some (.string (nmL.getD j ⟨#[]⟩))) ∧ Below w.heap.size w w'
theorem bases_r (w : World) : Calls Tryz.prog 36 #[] w (BsP w) := by
  go_enter Tryz.func36, Tryz.ntmps36
  go_wp2
  go_ret
  refine ⟨w.heap.size, rfl, Nat.le_refl _, fun j hj => ?_, (Below.refl _ _).alloc (Nat.le_refl _) _⟩
  rw [row_cell (nw_heap w _)]
  exact map_at (f := Value.int .i64) (l := bsL) (d := 0) (by exact hj)
theorem names_r (w : World) : Calls Tryz.prog 34 #[] w (NmP w) := by
  go_enter Tryz.func34, Tryz.ntmps34
  go_wp2
  go_ret
  refine ⟨w.heap.size, rfl, Nat.le_refl _, fun j hj => ?_, (Below.refl _ _).alloc (Nat.le_refl _) _⟩
  rw [row_cell (nw_heap w _)]
  exact map_at (f := Value.string) (l := nmL) (d := ⟨#[]⟩) (by exact hj)
theorem bs_at {k : Int} (h : isK k = true) : ∃ n : Nat, k = n ∧ n < 33 ∧ bsL.getD n 0 = bsS k := by
  obtain ⟨n, rfl, h1, h2⟩ := isK_nat h
  refine ⟨n, rfl, by omega, ?_⟩
  unfold bsS
  rw [if_pos h]
  rfl
theorem nm_at {k : Int} (h : isK k = true) : ∃ n : Nat, k = n ∧ n < 33 ∧ nmL.getD n ⟨#[]⟩ = nmS k := by
  obtain ⟨n, rfl, h1, h2⟩ := isK_nat h
  refine ⟨n, rfl, by omega, ?_⟩
  unfold nmS
  rw [if_pos h]
  rfl
theorem base_r (k : Int) (w : World) : Calls Tryz.prog 14 #[.int .i64 k] w fun e w' => e = .returned (.int .i64 (bsS k)) ∧ Below w.heap.size w w' := by
  by_cases hk : isK k = true
  · obtain ⟨n, rfl, hn, hb⟩ := bs_at hk
    have HB : Hid _ := hb
    clear hb
    go_enter Tryz.func14, Tryz.ntmps14
    go_wp2_with (first | (go_at_call 35; refine (is_k _ _).mono ?_; rintro e w' ⟨rfl, rfl⟩) | (go_at_call 36; refine (bases_r _).mono ?_; rintro e w2 ⟨B, rfl, hB, hc, hbel⟩; have HL : Hid _ := hbel; have hcn := hc n hn; clear hc hbel))
    go_ret
    exact ⟨ret_i HB.out, HL.out⟩
  · have hk' : isK k = false := by simpa using hk
    have HE : Hid _ := isK_nb hk'
    clear hk
    go_enter Tryz.func14, Tryz.ntmps14
    go_wp2_with (go_at_call 35; refine (is_k _ _).mono ?_; rintro e w' ⟨rfl, rfl⟩)
    go_ret
    exact ⟨ret_i HE.out.symm, Below.refl _ _⟩
theorem name_r (k : Int) (w : World) : Calls Tryz.prog 12 #[.int .i64 k] w fun e w' => e = .returned (.string (nmS k)) ∧ Below w.heap.size w w' := by
  by_cases hk : isK k = true
  · obtain ⟨n, rfl, hn, hb⟩ := nm_at hk
    have HB : Hid _ := hb
    clear hb
    go_enter Tryz.func12, Tryz.ntmps12
    go_wp2_with (first | (go_at_call 35; refine (is_k _ _).mono ?_; rintro e w' ⟨rfl, rfl⟩) | (go_at_call 34; refine (names_r _).mono ?_; rintro e w2 ⟨B, rfl, hB, hc, hbel⟩; have HL : Hid _ := hbel; have hcn := hc n hn; rw [HB.out] at hcn; clear hc hbel))
    go_ret
    exact ⟨rfl, HL.out⟩
  · have hk' : isK k = false := by simpa using hk
    have HE : Hid (nmS k = ⟨#[]⟩) := by show _ = _; unfold nmS; rw [if_neg hk]
    clear hk
    go_enter Tryz.func12, Tryz.ntmps12
    go_wp2_with (go_at_call 35; refine (is_k _ _).mono ?_; rintro e w' ⟨rfl, rfl⟩)
    go_ret
    refine ⟨?_, Below.refl _ _⟩
    rw [HE.out]
    rfl
theorem prim_r (k : Int) (w : World) : Calls Tryz.prog 16 #[.int .i64 k] w fun e w' => e = .returned (.int .i64 (prS k)) ∧ Below w.heap.size w w' := by
  go_enter Tryz.func16, Tryz.ntmps16
  go_wp2_with fail
  go_loopw [0] (fun i wr => Below w.heap.size w wr ∧ ∃ j : Int, i = .int .i64 j ∧ prS j = prS k) (fun i _ => (intOf i).toNat)
  case atStart => exact ⟨Below.refl _ _, k, rfl, rfl⟩
  case round =>
    obtain ⟨hbel, j, rfl, hp⟩ := hrel
    have HP : Hid _ := hp
    have HL : Hid _ := hbel
    obtain ⟨b0, b1, b2⟩ := bs_bd j
    have hlt : Hid _ := b2
    clear hp b2 hbel
    by_cases hb : bsS j = 0
    · have hbb : (bsS j != 0) = false := by simp [hb]
      by_cases hk : isK j = true
      · have HB : Hid _ := pr_top hk hb
        clear hb
        go_wp2_with (first | (go_at_call 35; refine (is_k _ _).mono ?_; rintro e w' ⟨rfl, rfl⟩) | (go_at_call 14; refine (base_r _ _).mono ?_; rintro e w2 ⟨rfl, hb2⟩; have HL2 : Hid _ := hb2; clear hb2))
        go_ret
        exact ⟨ret_i (by rw [← HP.out, HB.out]), HL.out.trans (HL2.out.mono HL.out.size)⟩
      · have hk' : isK j = false := by simpa using hk
        have HB : Hid _ := pr_no hk'
        clear hb hk
        go_wp2_with (first | (go_at_call 35; refine (is_k _ _).mono ?_; rintro e w' ⟨rfl, rfl⟩) | (go_at_call 14; refine (base_r _ _).mono ?_; rintro e w2 ⟨rfl, hb2⟩; have HL2 : Hid _ := hb2; clear hb2))
        go_ret
        exact ⟨ret_i (by rw [← HP.out, HB.out]), HL.out.trans (HL2.out.mono HL.out.size)⟩
    · have hbb : (bsS j != 0) = true := by simp [hb]
      have hk : isK j = true := by
        cases q : isK j with
        | true => rfl
        | false => exact absurd (isK_nb q) hb
      have HB : Hid _ := pr_up hk hb
      have hj1 : Hid _ := isK_iff.1 hk
      have hl2 : Hid _ := hlt.out hk
      clear hb hk
      go_wp2_with (first | (go_at_call 14; refine (base_r _ _).mono ?_; rintro e w2 ⟨rfl, hb2⟩; (first | (have HL3 : Hid _ := HL2.out.trans (Below.mono hb2 HL2.out.size); clear hb2) | (have HL2 : Hid _ := HL.out.trans (Below.mono hb2 HL.out.size); clear hb2))))
      go_roundw
      case rel => exact ⟨HL3.out, _, rfl, HB.out.1.trans HP.out⟩
      case measure => have := hl2.out; have := hj1.out; simp [intOf]; omega
theorem derived_r (k fr : Int) (w : World) : Calls Tryz.prog 20 #[.int .i64 k, .int .i64 fr] w fun e w' => e = .returned (.bool (dvS k fr)) ∧ Below w.heap.size w w' := by
  go_enter Tryz.func20, Tryz.ntmps20
  go_wp2_with fail
  go_loopw [0] (fun i wr => Below w.heap.size w wr ∧ ∃ (j : Int) (n : Nat), i = .int .i64 j ∧ (isK j = true → j < n) ∧ 1 ≤ n ∧ dvF n j fr = dvS k fr) (fun i _ => (intOf i).toNat)
  case atStart =>
    refine ⟨Below.refl _ _, k, 40, rfl, fun q => ?_, by omega, rfl⟩
    have := isK_iff.1 q
    omega
  case round =>
    obtain ⟨hbel, j, n, rfl, hj, hn, hp⟩ := hrel
    obtain ⟨n, rfl⟩ : ∃ m, n = m + 1 := ⟨n - 1, by omega⟩
    have HP : Hid _ := hp
    have HL : Hid _ := hbel
    have HJ : Hid _ := hj
    have HB2 : Hid _ := bs_bd j
    clear hp hj hn hbel
    by_cases hk : isK j = true
    · have HK : Hid _ := hk
      by_cases hjf : j = fr
      · have HD : Hid (dvF (n + 1) j fr = true) := by show _ = _; rw [dvF, if_pos hk, if_pos hjf]
        have hjf1 : (j == fr) = true := by simpa using hjf
        clear hjf
        go_wp2_with (go_at_call 35; refine (is_k _ _).mono ?_; rintro e w' ⟨rfl, rfl⟩)
        go_ret
        exact ⟨ret_b (by rw [← HP.out, HD.out]), HL.out⟩
      · have HD : Hid (dvF (n + 1) j fr = dvF n (bsS j) fr) := by show _ = _; rw [dvF, if_pos hk, if_neg hjf]
        have hjf1 : (j == fr) = false := by simpa using hjf
        clear hjf
        go_wp2_with (first | (go_at_call 35; refine (is_k _ _).mono ?_; rintro e w' ⟨rfl, rfl⟩) | (go_at_call 14; refine (base_r _ _).mono ?_; rintro e w2 ⟨rfl, hb2⟩; have HL2 : Hid _ := hb2; clear hb2))
        go_roundw
        case rel =>
          have h1 := HB2.out.2.2 HK.out
          have h2 := HJ.out HK.out
          have h3 := isK_iff.1 HK.out
          exact ⟨HL.out.trans (HL2.out.mono HL.out.size), _, n, rfl, fun _ => by omega, by omega, by rw [← HP.out, HD.out]⟩
        case measure =>
          have h1 := HB2.out
          have h2 := h1.2.2 HK.out
          simp [intOf]; omega
    · have hk' : isK j = false := by simpa using hk
      have HD : Hid (dvF (n + 1) j fr = false) := by show _ = _; rw [dvF, if_neg hk]
      clear hk
      go_wp2_with (go_at_call 35; refine (is_k _ _).mono ?_; rintro e w' ⟨rfl, rfl⟩)
      go_ret
      exact ⟨ret_b (by rw [← HP.out, HD.out]), HL.out⟩
end Go.Proofs.YtgaegajcejpmdaaGreatDoor
