/- Joined: HK3, HK4. -/
import Derived.Test.YtgaegajcejpmdaaGreatDoorHK2
import Derived.Laws.Rows
import Derived.Test.YtgaegajcejpmdaaGreatDoorHDcGen
namespace Go.Proofs.YtgaegajcejpmdaaGreatDoor
open Go.RowKit
set_option linter.unusedVariables false

/-- The names lie in their variable. -/
def NmG (w : World) : Prop := ∃ t f, w.heap[0]? = some (.cells (nmL.map Value.string).toArray t f)
theorem NmG.below {w w' : World} (h : NmG w) (hb : Below w.heap.size w w') : NmG w' := by
  obtain ⟨t, f, h⟩ := h
  exact ⟨t, f, (hb.block 0 (Array.getElem?_eq_some_iff.1 h).1).trans h⟩
theorem NmG.cell {w : World} (h : NmG w) {j : Nat} (hj : j < 33) : w.cell? ⟨0, j, none⟩ = some (.string (nmL.getD j ⟨#[]⟩)) := by
  obtain ⟨t, f, h⟩ := h
  rw [row_cell h]
  exact map_at (f := Value.string) (l := nmL) (d := ⟨#[]⟩) hj
theorem NmG.load {w : World} (h : NmG w) : (loadVar 65 ⟨0, 0, none⟩).run Tryz.prog w = .ok (.agg (nmL.map Value.string).toArray) w := by
  obtain ⟨t, f, h⟩ := h
  exact run_loadVar_row w 0 t 65 _ f _ h Tryz.underlying65 rfl (by kernel_rfl)
theorem nm_index (k : Nat) (hk : k < 33) (w : World) : (Instr.index 65 (.agg (nmL.map Value.string).toArray) (.int .i64 k)).run Tryz.prog w = .ok (.string (nmL.getD k ⟨#[]⟩)) w := by
  have h1 : ((0 : Int) ≤ (k : Int) ∧ (k : Int) < 33) := by omega
  have h2 : (nmL.map Value.string).toArray[k]? = some (.string (nmL.getD k ⟨#[]⟩)) := map_at (f := Value.string) (l := nmL) (d := ⟨#[]⟩) hk
  have e1 : (isAgg 9).run Tryz.prog w = .ok false w := Tryz.isAgg9 w
  have e2 : (sizeOf 9).run Tryz.prog w = .ok 1 w := Tryz.sizeOf9 w
  generalize (nmL.map Value.string).toArray = A at *
  generalize nmL.getD k ⟨#[]⟩ = v at *
  unfold Instr.index asIntOf
  simp only [Sem.run_bind, Sem.run_pure, Result.andThen_ok, run_underlying Tryz.underlying65]
  rw [if_pos (⟨by omega, by omega⟩ : (0 : Int) ≤ (k : Int) ∧ (k : Int) < ((33 : Nat) : Int))]
  simp only [Sem.run_bind, Result.andThen_ok, e2, part, e1, Int.toNat_natCast, Nat.mul_one, h2]
  simp [Sem.run_pure]
theorem name_k (k : Int) (w : World) (h : NmG w) : Calls Tryz.prog 11 #[.int .i64 k] w fun e w' => e = .returned (.string (nmS k)) ∧ w' = w := by
  by_cases hk : isK k = true
  · obtain ⟨n, rfl, hn, hb⟩ := nm_at hk
    have hcn := h.cell hn
    rw [hb] at hcn
    clear hb h
    go_enter Tryz.func11, Tryz.ntmps11
    go_wp2_with (go_at_call 33; refine (known_k _ _).mono ?_; rintro e w' ⟨rfl, rfl⟩)
    go_ret
    exact ⟨rfl, rfl⟩
  · have hk' : isK k = false := by simpa using hk
    have HE : Hid (nmS k = ⟨#[]⟩) := by show _ = _; unfold nmS; rw [if_neg hk]
    clear hk
    go_enter Tryz.func11, Tryz.ntmps11
    go_wp2_with (go_at_call 33; refine (known_k _ _).mono ?_; rintro e w' ⟨rfl, rfl⟩)
    go_ret
    refine ⟨?_, rfl⟩
    rw [HE.out]
    rfl
theorem fd_step {s : ByteArray} {k : Nat} (h1 : 1 ≤ k) (h : k < 33) : fdF s (33 - k) k = if ((nmL.getD k ⟨#[]⟩).toList == s.toList) = true then ((k : Int), 0) else fdF s (33 - (k + 1)) (k + 1) := by
  obtain ⟨m, hm⟩ : ∃ m, 33 - k = m + 1 := ⟨32 - k, by omega⟩
  have e : 33 - (k + 1) = m := by omega
  rw [hm, e, fdF]
theorem od_some {s : ByteArray} {i : Nat} (h : i < odL.length) (he : (s.toList == (odL.getD i ⟨#[]⟩).toList) = true) : odS s = 6 := by
  unfold odS
  rw [if_pos]
  rw [List.any_eq_true]
  refine ⟨odL.getD i ⟨#[]⟩, ?_, he⟩
  rw [List.getD_eq_getElem?_getD, List.getElem?_eq_getElem h]
  simp
theorem tlm (a : Array UInt8) : (⟨a⟩ : ByteArray).toList = a.toList := Lib.toList_data _
set_option maxRecDepth 20000 in
set_option maxHeartbeats 4000000 in
theorem find_k (s : ByteArray) (w : World) (h : NmG w) : Calls Tryz.prog 9 #[.string s] w fun e w' => e = .returned (.tuple #[.int .i64 (fdS s).1, .int .i64 (fdS s).2]) ∧ w' = w := by
  obtain ⟨tt, fr, hg⟩ := h
  have hsz : (Tryz.prog.info? 65).map (·.size) = some (nmL.map Value.string).toArray.size := by kernel_rfl
  have hix0 : ∀ (k : Nat), k < 33 → ∀ w, (Instr.index 65 (.agg (nmL.map Value.string).toArray) (.int .i64 k)).run Tryz.prog w = .ok (.string (nmL.getD k ⟨#[]⟩)) w := nm_index
  generalize (nmL.map Value.string).toArray = A at hg hix0 hsz
  have HIX : Hid _ := hix0
  clear hix0
  go_enter Tryz.func9, Tryz.ntmps9
  go_wp2_with (refine wpList_load_row rfl 65 _ rfl 0 rfl tt _ fr _ hg Tryz.underlying65 rfl hsz ?_)
  go_loopw [7] (fun i wr => wr = w ∧ ∃ k : Nat, i = .int .i64 k ∧ k ≤ 33 ∧ (k = 0 ∨ (1 ≤ k ∧ fdF s (33 - k) k = fdS s))) (fun i _ => 33 - (intOf i).toNat)
  case atStart => exact ⟨rfl, 0, rfl, by omega, .inl rfl⟩
  case round =>
    obtain ⟨rfl, k, rfl, hk, hr⟩ := hrel
    have HR : Hid _ := hr
    clear hr hg hsz
    by_cases hlt : k < 33
    · have hix := HIX.out k hlt wr
      rcases Nat.eq_zero_or_pos k with hk0 | hk1
      · subst hk0
        have hz : isK 0 = false := by decide
        have hix2 : (Instr.index 65 (.agg A) (.int .i64 0)).run Tryz.prog wr = .ok (.string (nmL.getD 0 ⟨#[]⟩)) wr := HIX.out 0 (by omega) wr
        clear hix
        generalize nmL.getD 0 ⟨#[]⟩ = nm at *
        by_cases he : (nm.toList == s.toList) = true
        · go_wp2_with (go_at_call 33; refine (known_k _ _).mono ?_; rintro e w' ⟨rfl, rfl⟩)
          go_roundw
          case rel => exact ⟨trivial, 1, by go_num, by omega, .inr ⟨by omega, rfl⟩⟩
          case measure => simp [intOf]
        · have he' : (nm.toList == s.toList) = false := by simpa using he
          clear he
          go_wp2_with (go_at_call 33; refine (known_k _ _).mono ?_; rintro e w' ⟨rfl, rfl⟩)
          go_roundw
          case rel => exact ⟨trivial, 1, by go_num, by omega, .inr ⟨by omega, rfl⟩⟩
          case measure => simp [intOf]
      · have hkk : isK (k : Int) = true := isK_iff.2 (by omega)
        have HS : Hid _ := fd_step (s := s) hk1 hlt
        have HR2 : Hid _ := (HR.out.resolve_left (by omega)).2
        generalize nmL.getD k ⟨#[]⟩ = nm at *
        by_cases he : (nm.toList == s.toList) = true
        · have HF : Hid (fdS s = ((k : Int), 0)) := by show _ = _; rw [← HR2.out, HS.out, if_pos he]
          go_wp2_with (go_at_call 33; refine (known_k _ _).mono ?_; rintro e w' ⟨rfl, rfl⟩)
          go_ret2
          rw [HF.out]
          exact ⟨rfl, rfl⟩
        · have he' : (nm.toList == s.toList) = false := by simpa using he
          have HF : Hid (fdF s (33 - (k + 1)) (k + 1) = fdS s) := by show _ = _; rw [← HR2.out, HS.out, if_neg he]
          clear he
          go_wp2_with (go_at_call 33; refine (known_k _ _).mono ?_; rintro e w' ⟨rfl, rfl⟩)
          go_roundw
          case rel => exact ⟨trivial, k + 1, by go_num, by omega, .inr ⟨by omega, HF.out⟩⟩
          case measure => simp [intOf]; omega
    · have hk33 : k = 33 := by omega
      subst hk33
      have HF : Hid (fdS s = (0, odS s)) := by
        show _ = _
        rw [← (HR.out.resolve_left (by omega)).2]
        rfl
      clear hlt hk
      go_wp2_with fail
      all_goals
        go_ret2
        refine ⟨?_, rfl⟩
        rw [HF.out]
        simp_all [odS, odL, tlm]
end Go.Proofs.YtgaegajcejpmdaaGreatDoor
namespace Go.Proofs.YtgaegajcejpmdaaGreatDoor
open Go.RowKit
set_option linter.unusedVariables false

theorem od_none {s : ByteArray} (h : ∀ i, i < odL.length → ((odL.getD i ⟨#[]⟩).toList == s.toList) = false) : odS s = 4 := by
  unfold odS
  rw [if_neg]
  rw [List.any_eq_true]
  rintro ⟨x, hx, he⟩
  obtain ⟨i, hi, rfl⟩ := List.getElem_of_mem hx
  have := h i hi
  rw [List.getD_eq_getElem?_getD, List.getElem?_eq_getElem hi] at this
  simp at this he
  exact this he.symm
set_option maxRecDepth 20000 in
set_option maxHeartbeats 4000000 in
theorem find_r (s : ByteArray) (w : World) : Calls Tryz.prog 10 #[.string s] w fun e w' => e = .returned (.tuple #[.int .i64 (fdS s).1, .int .i64 (fdS s).2]) ∧ Below w.heap.size w w' := by
  go_enter Tryz.func10, Tryz.ntmps10
  go_wp2_with (go_at_call 34; refine (names_r _).mono ?_; rintro e w1 ⟨B, rfl, hB, hc, hbel⟩; have HC : Hid _ := hc; have HL : Hid _ := hbel; clear hc hbel)
  go_loopw [5] (fun i wr => wr = w1 ∧ ∃ k : Nat, i = .int .i64 k ∧ k ≤ 33 ∧ 1 ≤ k ∧ fdF s (33 - k) k = fdS s) (fun i _ => 33 - (intOf i).toNat)
  case atStart => exact ⟨rfl, 1, rfl, by omega, by omega, rfl⟩
  case round =>
    obtain ⟨rfl, k, rfl, hk, hk1, hr⟩ := hrel
    have HR : Hid _ := hr
    clear hr
    by_cases hlt : k < 33
    · have hcn := HC.out k hlt
      have HS : Hid _ := fd_step (s := s) hk1 hlt
      generalize nmL.getD k ⟨#[]⟩ = nm at *
      by_cases he : (nm.toList == s.toList) = true
      · have HF : Hid (fdS s = ((k : Int), 0)) := by show _ = _; rw [← HR.out, HS.out, if_pos he]
        go_wp2_with fail
        go_ret2
        rw [HF.out]
        exact ⟨rfl, HL.out⟩
      · have he' : (nm.toList == s.toList) = false := by simpa using he
        have HF : Hid (fdF s (33 - (k + 1)) (k + 1) = fdS s) := by show _ = _; rw [← HR.out, HS.out, if_neg he]
        clear he
        go_wp2_with fail
        go_roundw
        case rel => exact ⟨trivial, k + 1, by go_num, by omega, by omega, HF.out⟩
        case measure => simp [intOf]; omega
    · have hk33 : k = 33 := by omega
      subst hk33
      have HF : Hid (fdS s = (0, odS s)) := by
        show _ = _
        rw [← HR.out]
        rfl
      clear hlt hk hk1 HR
      go_wp2_with fail
      generalize hO : wr.alloc _ = w2
      have hcell : ∀ j, j < 12 → w2.cell? ⟨wr.heap.size, j, none⟩ = some (.string (odL.getD j ⟨#[]⟩)) := fun j hj => by
        rw [← hO, row_cell (nw_heap wr _)]
        exact map_at (f := Value.string) (l := odL) (d := ⟨#[]⟩) (by exact hj)
      have HB2 : Hid (Below w.heap.size w w2) := by
        show Below _ _ _
        rw [← hO]
        exact HL.out.alloc HL.out.size _
      have HCE : Hid _ := hcell
      clear hcell hO
      go_loopw [7] (fun i wq => wq = w2 ∧ ∃ k : Nat, i = .int .i64 k ∧ k ≤ 12 ∧ ∀ j, j < k → ((odL.getD j ⟨#[]⟩).toList == s.toList) = false) (fun i _ => 12 - (intOf i).toNat)
      case atStart => exact ⟨rfl, 0, rfl, by omega, fun j hj => by omega⟩
      case round =>
        obtain ⟨rfl, k, rfl, hk, hr⟩ := hrel
        have HR : Hid _ := hr
        clear hr
        by_cases hlt : k < 12
        · have hcn := HCE.out k hlt
          have HE : Hid _ := od_some (s := s) (i := k) hlt
          have HN : Hid (∀ j, j < k + 1 → (j = k → ((odL.getD k ⟨#[]⟩).toList == s.toList) = false) → ((odL.getD j ⟨#[]⟩).toList == s.toList) = false) := by
            intro j hj hq
            by_cases hjk : j = k
            · subst hjk; exact hq rfl
            · exact HR.out j (by omega)
          generalize odL.getD k ⟨#[]⟩ = nm at *
          by_cases he : (nm.toList == s.toList) = true
          · have hE2 : Hid (odS s = 6) := HE.out (by simp at he ⊢; exact he.symm)
            go_wp2_with fail
            go_ret2
            rw [HF.out, hE2.out]
            exact ⟨rfl, HB2.out⟩
          · have he' : (nm.toList == s.toList) = false := by simpa using he
            clear he
            go_wp2_with fail
            go_roundw
            case rel => exact ⟨trivial, k + 1, by go_num, by omega, fun j hj => HN.out j hj (fun _ => he')⟩
            case measure => simp [intOf]; omega
        · have hE : Hid (odS s = 4) := od_none (fun i hi => HR.out i (by have : odL.length = 12 := rfl; omega))
          go_wp2_with fail
          go_ret2
          rw [HF.out, hE.out]
          exact ⟨rfl, HB2.out⟩
end Go.Proofs.YtgaegajcejpmdaaGreatDoor
