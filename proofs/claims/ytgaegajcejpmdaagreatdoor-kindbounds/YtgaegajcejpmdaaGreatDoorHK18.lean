/- KindBounds' own decimal. -/
import Derived.Test.YtgaegajcejpmdaaGreatDoorHJ44
namespace Go.Proofs.YtgaegajcejpmdaaGreatDoor
open Go.RowKit
set_option linter.unusedVariables false
set_option linter.unusedSimpArgs false

theorem sb_app (a b : List Int) : Dc.sb (a ++ b) = Dc.sb a ++ Dc.sb b := by
  apply ByteArray.ext
  simp [Dc.sb]
theorem conv_one (x : Int) (h0 : 0 ≤ x) (h1 : x < 256) (w : World) : (convert 32 9 (.slice (some ⟨w.heap.size, 0, none⟩) 1 1)).run Tryz.prog (w.alloc (.cells #[.int .u8 x] 5)) = .ok (.string (Dc.sb [x])) (w.alloc (.cells #[.int .u8 x] 5)) := by
  refine Dc.conv_str (l := [x]) ⟨_, 1, rfl, Nat.le_refl _, by unfold maxLen; omega, fun d hd => by simp at hd; omega, .inr ⟨w.heap.size, 0, rfl, by simp, fun i hi => ?_⟩⟩
  simp at hi
  subst hi
  rw [row_cell (nw_heap w _)]
  rfl
/-- Digits written from the right. -/
structure DI (U u : Nat) (D : List Int) : Prop where
  dg : Dc.Dg D
  ne : 1 ≤ D.length
  val : ((u / 10 : Nat) : Int) * Dc.p10 D.length + Dc.dval D = U
  one : D.length = 1 ∨ 1 ≤ u
  le : u * 10 ^ (D.length - 1) ≤ U
theorem DI.init (U : Nat) : DI U U [((U % 10 : Nat) : Int)] := by
  refine ⟨fun d hd => by simp at hd; omega, by simp, ?_, .inl rfl, by simp⟩
  simp [Dc.dval, Dc.p10]
  omega
theorem DI.step {U u : Nat} {D : List Int} (h : DI U u D) (hu : 10 ≤ u) : DI U (u / 10) (((u / 10 % 10 : Nat) : Int) :: D) := by
  have hne := h.ne
  refine ⟨fun d hd => ?_, by simp, ?_, .inr (by omega), ?_⟩
  · rcases List.mem_cons.1 hd with rfl | hd
    · omega
    · exact h.dg d hd
  · rw [Dc.dval_cons]
    have hv := h.val
    have e : ((u / 10 : Nat) : Int) = ((u / 10 / 10 : Nat) : Int) * 10 + ((u / 10 % 10 : Nat) : Int) := by omega
    rw [e, Int.add_mul] at hv
    rw [List.length_cons, Dc.p10_succ, ← Int.mul_assoc, Int.mul_right_comm]
    omega
  · have hl := h.le
    have e : (((u / 10 % 10 : Nat) : Int) :: D).length - 1 = D.length := by simp
    obtain ⟨k, hk⟩ : ∃ k, D.length = k + 1 := ⟨D.length - 1, by omega⟩
    rw [e, hk, Nat.pow_succ]
    rw [hk] at hl
    have e2 : k + 1 - 1 = k := by omega
    rw [e2] at hl
    have e3 : u / 10 * (10 ^ k * 10) = u / 10 * 10 * 10 ^ k := by rw [Nat.mul_comm (10 ^ k) 10, ← Nat.mul_assoc]
    rw [e3]
    exact Nat.le_trans (Nat.mul_le_mul_right _ (by omega)) hl
theorem DI.len {U u : Nat} {D : List Int} (h : DI U u D) (hU : U < 10 ^ 20) : D.length ≤ 20 := by
  rcases h.one with q | q
  · omega
  · have h1 : 10 ^ (D.length - 1) ≤ U := Nat.le_trans (by simpa using Nat.mul_le_mul_right (10 ^ (D.length - 1)) q) h.le
    have h2 : 10 ^ (D.length - 1) < 10 ^ 20 := by omega
    have := (Nat.pow_lt_pow_iff_right (by omega : 1 < 10)).1 h2
    omega
theorem DI.done {U u : Nat} {D : List Int} (h : DI U u D) (hu : u < 10) : Dc.dval D = U := by
  have hv := h.val
  have e : u / 10 = 0 := by omega
  rw [e] at hv
  simpa using hv
/-- What decimal leaves. -/
def DcP (n : Int) (w : World) (e : Ending) (w' : World) : Prop := ∃ D, e = .returned (.string (Dc.sb (dcT (decide (n < 0)) D))) ∧ Dc.Dg D ∧ D ≠ [] ∧ D.length ≤ 20 ∧ Dc.dval D = (n.natAbs : Int) ∧ Below w.heap.size w w'
set_option maxRecDepth 100000 in
set_option maxHeartbeats 3200000 in
theorem decimal_l (n : Int) (w : World) (h0 : -9223372036854775808 ≤ n) (h1 : n ≤ 9223372036854775807) : Calls Tryz.prog 31 #[.int .i64 n] w (DcP n w) := by
  have hU : n.natAbs ≤ 9223372036854775808 := by omega
  have hnb : (n < 0 ∧ decide (n < 0) = true ∧ IntKind.u64.wrap n = n + 18446744073709551616 ∧ IntKind.u64.wrap (0 - (n + 18446744073709551616)) = (n.natAbs : Int) ∧ IntKind.u64.wrap (-(n + 18446744073709551616)) = (n.natAbs : Int)) ∨ (0 ≤ n ∧ decide (n < 0) = false ∧ IntKind.u64.wrap n = (n.natAbs : Int) ∧ n = (n.natAbs : Int)) := by
    simp only [IntKind.wrap_u64]
    rcases (by omega : n < 0 ∨ 0 ≤ n) with q | q
    · left; refine ⟨q, by simpa using q, by omega, by omega, by omega⟩
    · right; refine ⟨q, by simpa using q, by omega, by omega⟩
  generalize hUU : n.natAbs = U at *
  have hU20 : U < 10 ^ 20 := Nat.lt_of_le_of_lt hU (by decide)
  have HD0 : Hid _ := DI.init U
  have HUU : Hid _ := hUU
  have HU20 : Hid _ := hU20
  clear hUU hU20
  have hcv0 := conv_one (48 + ((U % 10 : Nat) : Int)) (by omega) (by omega) w
  have hm0 : ((U : Int)).tmod 10 = ((U % 10 : Nat) : Int) := by rw [Int.tmod_eq_emod_of_nonneg (by omega)]; omega
  have hm1 : ((U : Int)) % 10 = ((U % 10 : Nat) : Int) := by omega
  have hmb : U % 10 < 10 := by omega
  generalize hdd : ((U % 10 : Nat) : Int) = d at *
  have hd0 : 0 ≤ d := by omega
  have hd9 : d ≤ 9 := by omega
  rcases hnb with ⟨hn, hb, hw1, hw2, hw3⟩ | ⟨hn, hb, hw1, hn2⟩
  · go_enter Tryz.func31, Tryz.ntmps31
    go_wp2_with fail
    clear hcv0 hm0 hm1 hw1 hw2 hw3
    go_loopw [3, 4] (fun v3 v4 wr => ∃ (x : Int) (D : List Int), v3 = .int .u64 x ∧ v4 = .string (Dc.sb (D.map (· + 48))) ∧ 0 ≤ x ∧ x ≤ 9223372036854775808 ∧ DI U x.toNat D ∧ Below w.heap.size w wr) (fun v3 _ _ => (intOf v3).toNat)
    case atStart =>
      refine ⟨U, [d], rfl, ?_, by omega, by omega, HD0.out, (Below.refl _ _).alloc (Nat.le_refl _) _⟩
      rw [List.map_singleton, Int.add_comm d 48]
    case round =>
      obtain ⟨x, D, rfl, rfl, hx0, hx1, hdi, hbel⟩ := hrel
      have hxs : Dc.sb (D.map (· + 48)) = Dc.sb (D.map (· + 48)) := rfl
      by_cases hlt : 10 ≤ x
      · have hst := hdi.step (by omega : 10 ≤ x.toNat)
        have e1 : x.toNat / 10 = (x / 10).toNat := by omega
        have e2 : ((x.toNat / 10 % 10 : Nat) : Int) = x / 10 % 10 := by omega
        rw [e2, e1] at hst
        have hq0 : 0 ≤ x / 10 := by omega
        have hq1 : x / 10 ≤ 9223372036854775808 := by omega
        have hq2 : 0 ≤ x / 10 % 10 := by omega
        have hq3 : x / 10 % 10 < 10 := by omega
        have hcv := conv_one (48 + x / 10 % 10) (by omega) (by omega) wr
        have hlx : (x / 10).toNat < x.toNat := by omega
        have hsum : ¬ (9223372036854775807 < (Dc.sb [48 + x / 10 % 10]).size + (Dc.sb (D.map (· + 48))).size) := by
          have h20 := hdi.len HU20.out
          rw [sb_size, sb_size, List.length_map]
          simp
          omega
        have HX : Hid _ := And.intro hst (And.intro hbel (And.intro hlx (sb_app [48 + x / 10 % 10] (D.map (· + 48)))))
        clear hst hbel hdi e1 e2 hlx hxs
        generalize hsd : Dc.sb (D.map (· + 48)) = sd at *
        clear hsd
        go_wp2_with fail
        go_roundw
        case rel =>
          refine ⟨x / 10, (x / 10 % 10) :: D, rfl, ?_, hq0, hq1, HX.out.1, HX.out.2.1.alloc HX.out.2.1.size _⟩
          rw [List.map_cons, Int.add_comm (x / 10 % 10) 48]
          exact congrArg Value.string HX.out.2.2.2.symm
        case measure => have := HX.out.2.2.1; simp [intOf]; omega
      · skip
        have hne : D ≠ [] := fun q => by have := hdi.ne; rw [q] at this; simp at this
        have HF : Hid _ := And.intro (hdi.done (by omega)) (And.intro hdi.dg (And.intro (hdi.len HU20.out) (And.intro hbel (And.intro hb hne))))
        have hsz2 : ¬ (9223372036854775807 < (⟨#[45]⟩ : ByteArray).size + (Dc.sb (D.map (· + 48))).size) := by
          have h20 := hdi.len HU20.out
          have e : (⟨#[45]⟩ : ByteArray).size = 1 := rfl
          rw [sb_size, List.length_map, e]
          omega
        have HS : Hid _ := sb_app [45] (D.map (· + 48))
        generalize hsd : Dc.sb (D.map (· + 48)) = sd at *
        clear hsd
        clear hdi hbel hxs
        go_wp2_with fail
        go_ret
        refine ⟨D, ?_, HF.out.2.1, HF.out.2.2.2.2.2, HF.out.2.2.1, by rw [HF.out.1, HUU.out], HF.out.2.2.2.1⟩
        rw [HF.out.2.2.2.2.1]
        show _ = Ending.returned (.string (Dc.sb ([45] ++ D.map (· + 48))))
        rw [HS.out]
        rfl
  · go_enter Tryz.func31, Tryz.ntmps31
    go_wp2_with fail
    clear hcv0 hm0 hm1 hw1 hn2
    go_loopw [3, 4] (fun v3 v4 wr => ∃ (x : Int) (D : List Int), v3 = .int .u64 x ∧ v4 = .string (Dc.sb (D.map (· + 48))) ∧ 0 ≤ x ∧ x ≤ 9223372036854775808 ∧ DI U x.toNat D ∧ Below w.heap.size w wr) (fun v3 _ _ => (intOf v3).toNat)
    case atStart =>
      refine ⟨U, [d], rfl, ?_, by omega, by omega, HD0.out, (Below.refl _ _).alloc (Nat.le_refl _) _⟩
      rw [List.map_singleton, Int.add_comm d 48]
    case round =>
      obtain ⟨x, D, rfl, rfl, hx0, hx1, hdi, hbel⟩ := hrel
      have hxs : Dc.sb (D.map (· + 48)) = Dc.sb (D.map (· + 48)) := rfl
      by_cases hlt : 10 ≤ x
      · have hst := hdi.step (by omega : 10 ≤ x.toNat)
        have e1 : x.toNat / 10 = (x / 10).toNat := by omega
        have e2 : ((x.toNat / 10 % 10 : Nat) : Int) = x / 10 % 10 := by omega
        rw [e2, e1] at hst
        have hq0 : 0 ≤ x / 10 := by omega
        have hq1 : x / 10 ≤ 9223372036854775808 := by omega
        have hq2 : 0 ≤ x / 10 % 10 := by omega
        have hq3 : x / 10 % 10 < 10 := by omega
        have hcv := conv_one (48 + x / 10 % 10) (by omega) (by omega) wr
        have hlx : (x / 10).toNat < x.toNat := by omega
        have hsum : ¬ (9223372036854775807 < (Dc.sb [48 + x / 10 % 10]).size + (Dc.sb (D.map (· + 48))).size) := by
          have h20 := hdi.len HU20.out
          rw [sb_size, sb_size, List.length_map]
          simp
          omega
        have HX : Hid _ := And.intro hst (And.intro hbel (And.intro hlx (sb_app [48 + x / 10 % 10] (D.map (· + 48)))))
        clear hst hbel hdi e1 e2 hlx hxs
        generalize hsd : Dc.sb (D.map (· + 48)) = sd at *
        clear hsd
        go_wp2_with fail
        go_roundw
        case rel =>
          refine ⟨x / 10, (x / 10 % 10) :: D, rfl, ?_, hq0, hq1, HX.out.1, HX.out.2.1.alloc HX.out.2.1.size _⟩
          rw [List.map_cons, Int.add_comm (x / 10 % 10) 48]
          exact congrArg Value.string HX.out.2.2.2.symm
        case measure => have := HX.out.2.2.1; simp [intOf]; omega
      · skip
        have hne : D ≠ [] := fun q => by have := hdi.ne; rw [q] at this; simp at this
        have HF : Hid _ := And.intro (hdi.done (by omega)) (And.intro hdi.dg (And.intro (hdi.len HU20.out) (And.intro hbel (And.intro hb hne))))
        have hsz2 : ¬ (9223372036854775807 < (⟨#[45]⟩ : ByteArray).size + (Dc.sb (D.map (· + 48))).size) := by
          have h20 := hdi.len HU20.out
          have e : (⟨#[45]⟩ : ByteArray).size = 1 := rfl
          rw [sb_size, List.length_map, e]
          omega
        generalize hsd : Dc.sb (D.map (· + 48)) = sd at *
        have HS : Hid _ := hsd
        clear hsd
        clear hdi hbel hxs
        go_wp2_with fail
        go_ret
        refine ⟨D, ?_, HF.out.2.1, HF.out.2.2.2.2.2, HF.out.2.2.1, by rw [HF.out.1, HUU.out], HF.out.2.2.2.1⟩
        rw [HF.out.2.2.2.2.1]
        show _ = Ending.returned (.string (Dc.sb (D.map (· + 48))))
        rw [HS.out]
        rfl
end Go.Proofs.YtgaegajcejpmdaaGreatDoor
