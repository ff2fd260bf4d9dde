/- The program's digits. -/
import Derived.Test.YtijcbgjlofcdfaaRd0
namespace Go.Proofs.Ytijcbgjlofcdfaa
open Go.RowKit
set_option linter.unusedVariables false

theorem dgs_len (l : List Int) : dgs l ≤ l.length := (List.takeWhile_sublist _).length_le
theorem dgs_cons (c : Int) (l : List Int) : dgs (c :: l) = if isD c then dgs l + 1 else 0 := by
  unfold dgs
  rw [List.takeWhile_cons]
  split <;> simp
theorem dgs_get : ∀ (l : List Int) (j : Nat) (h : j < dgs l), isD (l[j]'(Nat.lt_of_lt_of_le h (dgs_len l))) = true
  | [], j, h => by simp [dgs] at h
  | c :: l, j, h => by
    have hc := dgs_cons c l
    by_cases hd : isD c = true
    · rw [if_pos hd] at hc
      cases j with
      | zero => simpa using hd
      | succ j => simpa using dgs_get l j (by omega)
    · rw [if_neg hd] at hc; omega
theorem dgs_stop : ∀ (l : List Int) (h : dgs l < l.length), isD (l[dgs l]'h) = false
  | [], h => by simp at h
  | c :: l, h => by
    have hc := dgs_cons c l
    by_cases hd : isD c = true
    · rw [if_pos hd] at hc
      have h' : dgs l < l.length := by rw [hc] at h; simpa using h
      have := dgs_stop l h'
      simpa [hc] using this
    · rw [if_neg hd] at hc
      simpa [hc] using hd
theorem dvl_take {l : List Int} {j : Nat} (h : j < l.length) : dvl (l.take (j + 1)) = 10 * dvl (l.take j) + (l[j] - 48) := by
  rw [List.take_succ_eq_append_getElem h]
  unfold dvl
  rw [List.foldl_append]
  rfl
theorem dvl_bd {l : List Int} {j : Nat} (h : j ≤ dgs l) (h9 : j ≤ 9) : 0 ≤ dvl (l.take j) ∧ dvl (l.take j) < 1000000000 := by
  obtain ⟨a, b⟩ := dgs_take h
  have := dvl_in _ a
  rw [b] at this
  have hp : (10 : Int) ^ j ≤ 10 ^ 9 := by
    have : (10 : Nat) ^ j ≤ 10 ^ 9 := Nat.pow_le_pow_right (by omega) h9
    exact_mod_cast this
  omega
theorem bl_get (s : ByteArray) (j : Nat) (h : j < s.size) (h' : j < (bl s).length) : (bl s)[j] = ((s[j]'h).toNat : Int) := by
  have h2 : j < s.data.toList.length := by simpa using h
  show (s.data.toList.map fun c => (c.toNat : Int))[j]'(by simpa using h) = _
  rw [List.getElem_map]
  simp
  rfl
/-- How many digits are taken. -/
def dk (most : Nat) (l : List Int) : Nat := min (dgs l) most
set_option maxHeartbeats 800000 in
theorem digits_p (s : ByteArray) (most : Nat) (w : World) (hs : s.size ≤ maxLen) (hm : most ≤ 9) :
    Calls Try.prog 76 #[.string s, .int .i64 (most : Int)] w fun e w' => e = .returned (.tuple #[.int .i64 (dvl ((bl s).take (dk most (bl s)))), .int .i64 (dk most (bl s) : Nat)]) ∧ w' = w := by
  have hL := bl_len s
  have hdl := dgs_len (bl s)
  unfold maxLen at hs
  obtain ⟨K, hK⟩ : ∃ K, dk most (bl s) = K := ⟨_, rfl⟩
  have hK1 : K ≤ dgs (bl s) := by rw [← hK]; unfold dk; omega
  have hK2 : K ≤ most := by rw [← hK]; unfold dk; omega
  have hK3 : K = dgs (bl s) ∨ K = most := by rw [← hK]; unfold dk; omega
  rw [hK]
  clear hK
  obtain ⟨N, hN⟩ : ∃ N : Nat, min s.size most = N := ⟨_, rfl⟩
  have hN1 : N ≤ s.size := by omega
  have hN2 : N ≤ most := by omega
  have hN3 : K ≤ N := by omega
  have hN4 : N = s.size ∨ N = most := by omega
  have hN5 : (most : Int) < (s.size : Int) → N = most := by omega
  have hN6 : ¬ (most : Int) < (s.size : Int) → N = s.size := by omega
  have HN : Hid _ := And.intro hN5 hN6
  clear hN4 hN5 hN6
  have hm' : (most : Int) ≤ 9 := by omega
  clear hN
  have HS : Hid (∀ j, j < K → dvl ((bl s).take (j + 1)) = 10 * dvl ((bl s).take j) + (((s[j]?).getD 0).toNat - 48 : Int)) := (fun j hj => by
    have h1 : j < s.size := by omega
    rw [dvl_take (by omega), bl_get s j h1]
    simp [h1] : ∀ j, j < K → dvl ((bl s).take (j + 1)) = 10 * dvl ((bl s).take j) + (((s[j]?).getD 0).toNat - 48 : Int))
  have HD : Hid (∀ j (h : j < s.size), j < K → 48 ≤ ((s[j]'h).toNat : Int) ∧ ((s[j]'h).toNat : Int) ≤ 57) := (fun j h hj => by
    have := dgs_get (bl s) j (by omega)
    rw [bl_get s j h] at this
    simpa [isD] using this : ∀ j (h : j < s.size), j < K → 48 ≤ ((s[j]'h).toNat : Int) ∧ ((s[j]'h).toNat : Int) ≤ 57)
  have HE : Hid (∀ (h : K < s.size), K < N → ¬ (48 ≤ ((s[K]'h).toNat : Int) ∧ ((s[K]'h).toNat : Int) ≤ 57)) := (fun h hj => by
    have he : K = dgs (bl s) := by omega
    have := dgs_stop (bl s) (by omega)
    have e2 : (bl s)[dgs (bl s)]'(by omega) = (bl s)[K]'(by omega) := by congr 1; exact he.symm
    rw [e2, bl_get s K h] at this
    simp only [isD] at this
    intro q
    simp [q.1, q.2] at this : ∀ (h : K < s.size), K < N → ¬ (48 ≤ ((s[K]'h).toNat : Int) ∧ ((s[K]'h).toNat : Int) ≤ 57))
  have HB : Hid (∀ j, j ≤ K → 0 ≤ dvl ((bl s).take j) ∧ dvl ((bl s).take j) < 1000000000) := (fun j hj => dvl_bd (by omega) (by omega) : ∀ j, j ≤ K → 0 ≤ dvl ((bl s).take j) ∧ dvl ((bl s).take j) < 1000000000)
  clear hL hdl hK1 hK3
  go_enter Try.func76, Try.ntmps76
  go_wp2_with fail
  go_loopg [4, 5] K (fun g v4 v5 wr => ∃ j : Nat, j + g = K ∧ v5 = .int .i64 (j : Int) ∧ v4 = .int .i64 (dvl ((bl s).take j)) ∧ wr = w)
  case atStart => exact ⟨0, by omega, rfl, by simp [dvl], rfl⟩
  case round =>
    obtain ⟨j, hjg, rfl, rfl, hwr⟩ := hrel
    have hw3 := hwr.symm
    clear hwr
    subst hw3
    obtain ⟨hb0, hb1⟩ := HB.out j (by omega)
    by_cases hlt : j < K
    · obtain ⟨g, rfl⟩ : ∃ g, gk = g + 1 := ⟨gk - 1, by omega⟩
      have hjs : j < s.size := by omega
      obtain ⟨c0, c1⟩ := HD.out j hjs hlt
      have hn := HS.out j hlt
      rw [show ((s[j]?).getD 0) = s[j] by simp [hjs]] at hn
      have HNX : Hid _ := hn
      clear hn
      have hjN : (j : Int) < (N : Int) := by omega
      generalize dvl ((bl s).take j) = V at *
      by_cases hms : (most : Int) < (s.size : Int)
      · obtain rfl := HN.out.1 hms
        go_wp2_with fail
        go_roundg g
        case measure => omega
        case rel => exact ⟨j + 1, by omega, by simp, by rw [HNX.out], rfl⟩
      · obtain rfl := HN.out.2 (by omega)
        go_wp2_with fail
        go_roundg g
        case measure => omega
        case rel => exact ⟨j + 1, by omega, by simp, by rw [HNX.out], rfl⟩
    · have hjK : j = K := by omega
      subst hjK
      by_cases hjN : (j : Int) < (N : Int)
      · have hjs : j < s.size := by omega
        have hno := HE.out hjs (by omega)
        by_cases c0 : 48 ≤ ((s[j]'hjs).toNat : Int)
        · have c1 : ¬ ((s[j]'hjs).toNat : Int) ≤ 57 := fun q => hno ⟨c0, q⟩
          clear hno
          by_cases hms : (most : Int) < (s.size : Int)
          · obtain rfl := HN.out.1 hms
            go_wp2_with fail
            go_ret2
            exact ⟨rfl, rfl⟩
          · obtain rfl := HN.out.2 (by omega)
            go_wp2_with fail
            go_ret2
            exact ⟨rfl, rfl⟩
        · clear hno
          by_cases hms : (most : Int) < (s.size : Int)
          · obtain rfl := HN.out.1 hms
            go_wp2_with fail
            go_ret2
            exact ⟨rfl, rfl⟩
          · obtain rfl := HN.out.2 (by omega)
            go_wp2_with fail
            go_ret2
            exact ⟨rfl, rfl⟩
      · by_cases hms : (most : Int) < (s.size : Int)
        · obtain rfl := HN.out.1 hms
          go_wp2_with fail
          go_ret2
          exact ⟨rfl, rfl⟩
        · obtain rfl := HN.out.2 (by omega)
          go_wp2_with fail
          go_ret2
          exact ⟨rfl, rfl⟩
end Go.Proofs.Ytijcbgjlofcdfaa
