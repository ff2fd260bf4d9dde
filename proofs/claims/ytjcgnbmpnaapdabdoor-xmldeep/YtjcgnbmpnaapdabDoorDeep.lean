/- The walk of XmlDeep. -/
import Derived.Test.YtjcgnbmpnaapdabDoorBuilt
import Derived.Test.YtjcgnbmpnaapdabDoorEvs
namespace Go.Proofs.YtjcgnbmpnaapdabDoor
open Go.RowKit
set_option linter.unusedVariables false

theorem opens_bd (n : Nat) : Bd (M.opens (M.rp n)) := by
  induction n with
  | zero => exact bd_mem (by decide)
  | succ n ih => rw [M.opens_rp]; exact bd_append ih (bd_mem (by decide))
theorem closes_bd (n : Nat) : Bd (M.closes (M.rp n)) := by
  induction n with
  | zero => exact bd_mem (by decide)
  | succ n ih => rw [M.closes_rp]; exact bd_append ih (bd_mem (by decide))
theorem lim_deep (most : Int) : limS most 0 0 0 = ⟨if most < 1 ∨ 64 < most then 64 else most, 4096, 64, 4096⟩ := by
  unfold limS narS
  congr 1
  split
  · rw [if_pos (by omega)]
  · split
    · rename_i h1 h2; omega
    · omega
theorem deep_no {w : World} (n most : Int) (hT : Tab w) (hn : n < 1 ∨ 100 < n) :
    Calls Tryd.prog 3 #[.int .i64 n, .int .i64 most] w fun e w' => e = .returned (.bool true) ∧ Below w.heap.size w w' := by
  have HT : Hid _ := hT
  clear hT
  go_enter Tryd.func3, Tryd.ntmps3
  go_wp2_with fail
  refine (known_s HT.out).mono ?_
  rintro e w2 ⟨rfl, hb2⟩
  have HB2 : Hid _ := hb2
  clear hb2
  by_cases h1 : n < 1
  · go_wp2_with fail
    go_ret
    exact ⟨rfl, HB2.out⟩
  · have h2 : 100 < n := by omega
    go_wp2_with fail
    go_ret
    exact ⟨rfl, HB2.out⟩
theorem sz1 {i : Nat} (h : i ≤ 100) : (sb (M.opens (M.rp i))).size ≤ 300 := by rw [sb_size, M.opens_rp_len]; omega
theorem sz2 {i j : Nat} (h : i ≤ 100) (hj : j ≤ 100) : (sb (M.opens (M.rp i) ++ M.closes (M.rp j))).size ≤ 700 := by rw [sb_size, List.length_append, M.opens_rp_len, M.closes_rp_len]; omega
set_option maxRecDepth 100000 in
set_option maxHeartbeats 6400000 in
theorem deep_walk {w : World} (n : Nat) (most : Int) (hT : Tab w) (hn1 : 1 ≤ n) (hn2 : n ≤ 100) :
    Calls Tryd.prog 3 #[.int .i64 n, .int .i64 most] w fun e w' => e = .returned (.bool true) ∧ Below w.heap.size w w' := by
  have h0 : 0 < w.heap.size := World.block_lt_of_cell? w _ hT.a
  have HT : Hid _ := hT
  clear hT
  go_enter Tryd.func3, Tryd.ntmps3
  go_wp2_with fail
  refine (known_s HT.out).mono ?_
  rintro e w2 ⟨rfl, hb2⟩
  have HB2 : Hid _ := hb2
  clear hb2
  go_wp2_with fail
  go_loopg [5, 6] n (fun m v5 v6 wr => ∃ i : Nat, v5 = .string (sb (M.opens (M.rp i))) ∧ v6 = .int .i64 i ∧ i + m = n ∧ wr = w2)
  case atStart => exact ⟨0, rfl, rfl, by omega, rfl⟩
  case round =>
    obtain ⟨i, rfl, rfl, him, rfl⟩ := hrel
    by_cases hi : i < n
    · obtain ⟨m, rfl⟩ : ∃ m, gk = m + 1 := ⟨gk - 1, by omega⟩
      have hs := sz1 (i := i) (by omega)
      go_wp2_with fail
      go_roundg m
      case measure => omega
      case rel => exact ⟨i + 1, by rw [M.opens_rp, ← sb_append]; rfl, by simp, by omega, rfl⟩
    · obtain rfl : i = n := by omega
      go_wp2_with fail
      go_loopg [5, 7] i (fun m v5 v7 wr' => ∃ j : Nat, v5 = .string (sb (M.opens (M.rp i) ++ M.closes (M.rp j))) ∧ v7 = .int .i64 j ∧ j + m = i ∧ wr' = wr)
      case atStart => exact ⟨0, by rw [show M.closes (M.rp 0) = [] from rfl, List.append_nil], rfl, by omega, rfl⟩
      case round =>
        obtain ⟨j, rfl, rfl, hjm, rfl⟩ := hrel
        by_cases hj : j < i
        · obtain ⟨m, rfl⟩ : ∃ m, gk = m + 1 := ⟨gk - 1, by omega⟩
          have hs := sz2 (i := i) (j := j) (by omega) (by omega)
          go_wp2_with fail
          go_roundg m
          case measure => omega
          case rel => exact ⟨j + 1, by rw [M.closes_rp, ← List.append_assoc, ← sb_append (M.opens (M.rp i) ++ M.closes (M.rp j))]; rfl, by simp, by omega, rfl⟩
        · obtain rfl : j = i := by omega
          have hdbd : Bd (M.opens (M.rp j) ++ M.closes (M.rp j)) := bd_append (opens_bd j) (closes_bd j)
          have hdl : (M.opens (M.rp j) ++ M.closes (M.rp j)).length = 7 * j := by rw [List.length_append, M.opens_rp_len, M.closes_rp_len]; omega
          obtain ⟨cap, w3, hcv, hb3, hbi⟩ := conv_bi _ wr hdbd (by unfold maxLen; omega)
          have hz2 := HB2.out.size
          have hz3 := hb3.size
          have HB3 : Hid _ := And.intro (HB2.out.trans (hb3.mono hz2)) hbi
          have HT3 : Hid _ := (HT.out.lower HB2.out h0).lower hb3 (by omega)
          clear hb3 hbi
          go_wp2_with fail
          refine (all_b most 0 0 0 0 0 HB3.out.2 HT3.out).mono ?_
          rintro e w4 ⟨B4, sv4, xs4, rfl, hB4, hr4, hc4, hb4⟩
          have HF : Hid _ := HB3.out.1.trans (hb4.mono (by omega))
          have HE : Hid _ := ER.of hr4 hc4
          clear hr4 hc4 hb4
          obtain ⟨a4, cap4, rfl, hn4, hm4, hg4⟩ := HE.out.f
          obtain ⟨d, hd1, hd2, hlim, hcase⟩ : ∃ d : Nat, 1 ≤ d ∧ d ≤ 64 ∧ limS most 0 0 0 = ⟨(d : Int), 4096, 64, 4096⟩ ∧ (most < 1 ∧ d = 64 ∨ ¬ most < 1 ∧ 64 < most ∧ d = 64 ∨ ¬ most < 1 ∧ ¬ 64 < most ∧ most = (d : Int)) := by
            have hlim := lim_deep most
            by_cases h1 : most < 1
            · exact ⟨64, by omega, by omega, by rw [hlim, if_pos (.inl h1)]; rfl, .inl ⟨h1, rfl⟩⟩
            · by_cases h2 : 64 < most
              · exact ⟨64, by omega, by omega, by rw [hlim, if_pos (.inr h2)]; rfl, .inr (.inl ⟨h1, h2, rfl⟩)⟩
              · refine ⟨most.toNat, by omega, by omega, ?_, .inr (.inr ⟨h1, h2, by omega⟩)⟩
                rw [hlim, if_neg (by omega)]
                congr 1
                omega
          unfold maxLen at hm4
          generalize hX : allB (M.opens (M.rp j) ++ M.closes (M.rp j)) (limS most 0 0 0) = X at *
          rcases hcase with ⟨h1, hd64⟩ | ⟨h1, h2, hd64⟩ | ⟨h1, h2, rfl⟩
          · by_cases hnd : d < j
            · obtain ⟨es0, hall, hel⟩ := M.deep_out (L := ⟨(d : Int), 4096, 64, 4096⟩) (n := j) (d := d) hd1 (by show (1 : Int) ≤ 4096; omega) rfl (by show ((d : Nat) : Int) ≤ 4096; omega) hnd hn2
              have hel' : (es0.length : Int) = 64 := by omega
              have hdl2 : (((3 * d : Nat) : Int)) = 192 := by omega
              rw [hlim, hall, hdl2] at hX
              subst hX
              dsimp only at *
              go_wp2_with fail
              go_ret
              exact ⟨by first | rfl | simp [hel'] | (simp; omega), HF.out⟩
            · obtain ⟨es0, hall, hel, hget⟩ := M.deep_in (L := ⟨(d : Int), 4096, 64, 4096⟩) (n := j) hn1 (by show (1 : Int) ≤ 4096; omega) (by show (j : Int) ≤ ((d : Nat) : Int); omega) (by show (j : Int) ≤ 4096; omega) hn2
              rw [hlim, hall] at hX
              subst hX
              dsimp only at *
              have hne : es0 ≠ [] := by intro q; rw [q] at hel; simp at hel; omega
              obtain ⟨g4, o4, rfl, hk4⟩ := hg4 hne
              have hel' : (es0.length : Int) = 2 * (j : Int) := by omega
              have HK : Hid _ := And.intro hk4 hget
              clear hk4 hget hg4
              go_wp2_with fail
              go_loopg [12] j (fun m v12 wr' => ∃ k : Nat, v12 = .int .i64 k ∧ k + m = j ∧ wr' = w4)
              case atStart => exact ⟨0, rfl, by omega, rfl⟩
              case round =>
                obtain ⟨k, rfl, hkm, rfl⟩ := hrel
                by_cases hk : k < j
                · obtain ⟨m, rfl⟩ : ∃ m, gk = m + 1 := ⟨gk - 1, by omega⟩
                  obtain ⟨e1, e2, he1, hp1, he2, hp2, hk2⟩ := HK.out.2 k hk
                  have x1 := (HK.out.1 k e1 he1).2
                  have y0 := (HK.out.1 (j + k) e2 he2).1
                  have y1 := (HK.out.1 (j + k) e2 he2).2
                  rw [hp1] at x1
                  rw [hp2] at y1
                  rw [hk2] at y0
                  have q1 : ((3 * k : Nat) : Int) = 3 * (k : Int) := by omega
                  have q2 : ((3 * j + 4 * k : Nat) : Int) = 3 * (j : Int) + 4 * (k : Int) := by omega
                  have q3 : ((j + k : Nat) : Int) = (j : Int) + (k : Int) := by omega
                  rw [q1] at x1
                  rw [q2] at y1
                  have b1 : (k : Int) < (es0.length : Int) := by omega
                  have b2 : (j : Int) + (k : Int) < (es0.length : Int) := by omega
                  clear he1 he2 hp1 hp2 hk2
                  go_wp2_with fail
                  go_roundg m
                  case measure => omega
                  case rel => exact ⟨k + 1, by simp, by omega, rfl⟩
                · go_wp2_with fail
                  go_ret
                  exact ⟨rfl, HF.out⟩
          · by_cases hnd : d < j
            · obtain ⟨es0, hall, hel⟩ := M.deep_out (L := ⟨(d : Int), 4096, 64, 4096⟩) (n := j) (d := d) hd1 (by show (1 : Int) ≤ 4096; omega) rfl (by show ((d : Nat) : Int) ≤ 4096; omega) hnd hn2
              have hel' : (es0.length : Int) = 64 := by omega
              have hdl2 : (((3 * d : Nat) : Int)) = 192 := by omega
              rw [hlim, hall, hdl2] at hX
              subst hX
              dsimp only at *
              go_wp2_with fail
              go_ret
              exact ⟨by first | rfl | simp [hel'] | (simp; omega), HF.out⟩
            · obtain ⟨es0, hall, hel, hget⟩ := M.deep_in (L := ⟨(d : Int), 4096, 64, 4096⟩) (n := j) hn1 (by show (1 : Int) ≤ 4096; omega) (by show (j : Int) ≤ ((d : Nat) : Int); omega) (by show (j : Int) ≤ 4096; omega) hn2
              rw [hlim, hall] at hX
              subst hX
              dsimp only at *
              have hne : es0 ≠ [] := by intro q; rw [q] at hel; simp at hel; omega
              obtain ⟨g4, o4, rfl, hk4⟩ := hg4 hne
              have hel' : (es0.length : Int) = 2 * (j : Int) := by omega
              have HK : Hid _ := And.intro hk4 hget
              clear hk4 hget hg4
              go_wp2_with fail
              go_loopg [12] j (fun m v12 wr' => ∃ k : Nat, v12 = .int .i64 k ∧ k + m = j ∧ wr' = w4)
              case atStart => exact ⟨0, rfl, by omega, rfl⟩
              case round =>
                obtain ⟨k, rfl, hkm, rfl⟩ := hrel
                by_cases hk : k < j
                · obtain ⟨m, rfl⟩ : ∃ m, gk = m + 1 := ⟨gk - 1, by omega⟩
                  obtain ⟨e1, e2, he1, hp1, he2, hp2, hk2⟩ := HK.out.2 k hk
                  have x1 := (HK.out.1 k e1 he1).2
                  have y0 := (HK.out.1 (j + k) e2 he2).1
                  have y1 := (HK.out.1 (j + k) e2 he2).2
                  rw [hp1] at x1
                  rw [hp2] at y1
                  rw [hk2] at y0
                  have q1 : ((3 * k : Nat) : Int) = 3 * (k : Int) := by omega
                  have q2 : ((3 * j + 4 * k : Nat) : Int) = 3 * (j : Int) + 4 * (k : Int) := by omega
                  have q3 : ((j + k : Nat) : Int) = (j : Int) + (k : Int) := by omega
                  rw [q1] at x1
                  rw [q2] at y1
                  have b1 : (k : Int) < (es0.length : Int) := by omega
                  have b2 : (j : Int) + (k : Int) < (es0.length : Int) := by omega
                  clear he1 he2 hp1 hp2 hk2
                  go_wp2_with fail
                  go_roundg m
                  case measure => omega
                  case rel => exact ⟨k + 1, by simp, by omega, rfl⟩
                · go_wp2_with fail
                  go_ret
                  exact ⟨rfl, HF.out⟩
          · by_cases hnd : d < j
            · obtain ⟨es0, hall, hel⟩ := M.deep_out (L := ⟨(d : Int), 4096, 64, 4096⟩) (n := j) (d := d) hd1 (by show (1 : Int) ≤ 4096; omega) rfl (by show ((d : Nat) : Int) ≤ 4096; omega) hnd hn2
              have hel' : (es0.length : Int) = (d : Int) := by omega
              have hdl2 : (((3 * d : Nat) : Int)) = 3 * (d : Int) := by omega
              rw [hlim, hall, hdl2] at hX
              subst hX
              dsimp only at *
              go_wp2_with fail
              go_ret
              exact ⟨by first | rfl | simp [hel'] | (simp; omega), HF.out⟩
            · obtain ⟨es0, hall, hel, hget⟩ := M.deep_in (L := ⟨(d : Int), 4096, 64, 4096⟩) (n := j) hn1 (by show (1 : Int) ≤ 4096; omega) (by show (j : Int) ≤ ((d : Nat) : Int); omega) (by show (j : Int) ≤ 4096; omega) hn2
              rw [hlim, hall] at hX
              subst hX
              dsimp only at *
              have hne : es0 ≠ [] := by intro q; rw [q] at hel; simp at hel; omega
              obtain ⟨g4, o4, rfl, hk4⟩ := hg4 hne
              have hel' : (es0.length : Int) = 2 * (j : Int) := by omega
              have HK : Hid _ := And.intro hk4 hget
              clear hk4 hget hg4
              go_wp2_with fail
              go_loopg [12] j (fun m v12 wr' => ∃ k : Nat, v12 = .int .i64 k ∧ k + m = j ∧ wr' = w4)
              case atStart => exact ⟨0, rfl, by omega, rfl⟩
              case round =>
                obtain ⟨k, rfl, hkm, rfl⟩ := hrel
                by_cases hk : k < j
                · obtain ⟨m, rfl⟩ : ∃ m, gk = m + 1 := ⟨gk - 1, by omega⟩
                  obtain ⟨e1, e2, he1, hp1, he2, hp2, hk2⟩ := HK.out.2 k hk
                  have x1 := (HK.out.1 k e1 he1).2
                  have y0 := (HK.out.1 (j + k) e2 he2).1
                  have y1 := (HK.out.1 (j + k) e2 he2).2
                  rw [hp1] at x1
                  rw [hp2] at y1
                  rw [hk2] at y0
                  have q1 : ((3 * k : Nat) : Int) = 3 * (k : Int) := by omega
                  have q2 : ((3 * j + 4 * k : Nat) : Int) = 3 * (j : Int) + 4 * (k : Int) := by omega
                  have q3 : ((j + k : Nat) : Int) = (j : Int) + (k : Int) := by omega
                  rw [q1] at x1
                  rw [q2] at y1
                  have b1 : (k : Int) < (es0.length : Int) := by omega
                  have b2 : (j : Int) + (k : Int) < (es0.length : Int) := by omega
                  clear he1 he2 hp1 hp2 hk2
                  go_wp2_with fail
                  go_roundg m
                  case measure => omega
                  case rel => exact ⟨k + 1, by simp, by omega, rfl⟩
                · go_wp2_with fail
                  go_ret
                  exact ⟨rfl, HF.out⟩
end Go.Proofs.YtjcgnbmpnaapdabDoor
