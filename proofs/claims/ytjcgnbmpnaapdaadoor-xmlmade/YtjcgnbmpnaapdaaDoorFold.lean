/- A name held against a word, whatever its letters' kind: the contracts of SimpleFold, DecodeRuneInString, EqualFold. -/
import Derived.Test.YtjcgnbmpnaapdaaDoorPure1
import Derived.WalkMore
import Derived.ScopeJumps
namespace Go.Proofs.YtjcgnbmpnaapdaaDoor
open Go.RowKit
set_option linter.unusedVariables false
set_option linter.unusedSimpArgs false

set_option maxRecDepth 20000 in
set_option maxHeartbeats 400000 in
theorem sfold_any (r : Nat) (x : Int) (w : World) (h : r < 128) (h0 : 0 ≤ x) (h1 : x < 65536) (hc : w.cell? ⟨0, r, none⟩ = some (.int .u16 x)) :
    Calls Tryd.prog 88 #[.int .i32 r] w fun e w' => e = .returned (.int .i32 x) ∧ w' = w := by
  go_enter Tryd.func88, Tryd.ntmps88
  go_wp2
  go_ret
  exact ⟨rfl, rfl⟩
theorem sfold_i (r x : Int) (w : World) (hr : 0 ≤ r) (h : r < 128) (h0 : 0 ≤ x) (h1 : x < 65536) (hc : w.cell? ⟨0, r.toNat, none⟩ = some (.int .u16 x)) :
    Calls Tryd.prog 88 #[.int .i32 r] w fun e w' => e = .returned (.int .i32 x) ∧ w' = w := by
  obtain ⟨n, rfl⟩ := Int.eq_ofNat_of_zero_le hr
  exact sfold_any n x w (by omega) h0 h1 hc
set_option maxRecDepth 20000 in
theorem drune_0 (w : World) : Calls Tryd.prog 87 #[.string ⟨#[120, 109, 108]⟩] w fun e w' => e = .returned (.tuple #[.int .i32 120, .int .i64 1]) ∧ w' = w := by
  go_enter Tryd.func87, Tryd.ntmps87
  go_wp2
  go_ret2
  exact ⟨rfl, rfl⟩
set_option maxRecDepth 20000 in
theorem drune_1 (w : World) : Calls Tryd.prog 87 #[.string ⟨#[109, 108]⟩] w fun e w' => e = .returned (.tuple #[.int .i32 109, .int .i64 1]) ∧ w' = w := by
  go_enter Tryd.func87, Tryd.ntmps87
  go_wp2
  go_ret2
  exact ⟨rfl, rfl⟩
set_option maxRecDepth 20000 in
theorem drune_2 (w : World) : Calls Tryd.prog 87 #[.string ⟨#[108]⟩] w fun e w' => e = .returned (.tuple #[.int .i32 108, .int .i64 1]) ∧ w' = w := by
  go_enter Tryd.func87, Tryd.ntmps87
  go_wp2
  go_ret2
  exact ⟨rfl, rfl⟩
/-- The letters of xml, and of XML, in the table of folds. -/
structure Tab (w : World) : Prop where
  a : w.cell? ⟨0, 120, none⟩ = some (.int .u16 88)
  b : w.cell? ⟨0, 88, none⟩ = some (.int .u16 120)
  c : w.cell? ⟨0, 109, none⟩ = some (.int .u16 77)
  d : w.cell? ⟨0, 77, none⟩ = some (.int .u16 109)
  e : w.cell? ⟨0, 108, none⟩ = some (.int .u16 76)
  f : w.cell? ⟨0, 76, none⟩ = some (.int .u16 108)
theorem Tab.far {w w' : World} {row : Option Nat} (h : Tab w) (hg : w.grownBy w' row) (hne : row ≠ some 0) : Tab w' := by
  have k : ∀ {i v}, w.cell? ⟨0, i, none⟩ = some v → w'.cell? ⟨0, i, none⟩ = some v := fun {i v} hi => (hg.cell_far ⟨0, i, none⟩ (World.block_lt_of_cell? w _ hi) (fun e => hne e.symm)).trans hi
  exact ⟨k h.a, k h.b, k h.c, k h.d, k h.e, k h.f⟩
theorem u8_or120 (c : Int) (h0 : 0 ≤ c) (h1 : c < 256) : (128 ≤ bits .or .u8 c 120) ↔ 128 ≤ c := by
  have := byteAll (fun c => (decide (128 ≤ bits .or .u8 c 120)) == decide (128 ≤ c)) (by decide +kernel) c h0 h1
  simpa using this
def EfJ (s : ByteArray) (w : World) : Act → World → Prop := fun a' w' => w' = w ∧ ∃ (i : Nat) (u4 u6 u7 u8 u14 u15 u16 u17 u18 u19 u20 u21 u22 u23 u24 u25 u26 u27 u28 u29 u30 u31 u32 u33 u34 u35 u36 u37 u38 u39 u40 u41 u42 u43 u44 u45 u46 u47 u48 u49 u50 u51 u52 u53 u54 : Value), a' = { tmps := #[.string s, .string ⟨#[120, 109, 108]⟩, undef, undef, u4, .int .i64 i, u6, u7, u8, undef, undef, undef, undef, undef, u14, u15, u16, u17, u18, u19, u20, u21, u22, u23, u24, u25, u26, u27, u28, u29, u30, u31, u32, u33, u34, u35, u36, u37, u38, u39, u40, u41, u42, u43, u44, u45, u46, u47, u48, u49, u50, u51, u52, u53, u54, undef, undef, undef, undef, undef, undef, undef, undef, undef, undef, undef, undef, undef, undef, undef, undef, undef, undef, undef, undef, undef, undef, undef, undef, undef, undef, undef, undef, undef, undef, undef, undef, undef, undef, undef, undef, undef, undef, undef, undef, undef, undef, undef, undef, undef, undef, undef, undef, undef, undef, undef, undef, undef, undef, undef, undef, undef, undef, undef, undef, undef, undef, undef, undef, undef, undef, undef, undef], defers := [] } ∧ i < 3 ∧ ∃ h : i < s.size, 128 ≤ (s[i].toNat : Int)
def tl (i : Nat) : Int := ([120, 109, 108] : List Int).getD i 0
theorem bl_at {s : ByteArray} {i : Nat} (h : i < s.size) : (bl s).getD i 0 = (s[i].toNat : Int) := by
  rw [List.getD_eq_getElem?_getD]
  simp [bl, h]
  rfl
theorem fold_no {s : ByteArray} {i : Nat} (hi : i < 3) (his : i < s.size) (h1 : (s[i].toNat : Int) ≠ tl i) (h2 : (s[i].toNat : Int) ≠ tl i - 32) : foldX (bl s) = false := by
  have e := bl_at his
  unfold foldX
  rw [decide_eq_false_iff_not]
  rintro ⟨h0, a0, a1, a2⟩
  rcases (by omega : i = 0 ∨ i = 1 ∨ i = 2) with rfl | rfl | rfl
  all_goals
    simp [tl] at h1 h2
    omega
theorem fold_end {s : ByteArray} (h3 : 3 ≤ s.size) (h : ∀ (j : Nat) (hj : j < s.size), j < 3 → (s[j].toNat : Int) = tl j ∨ (s[j].toNat : Int) = tl j - 32) : foldX (bl s) = ((s.size : Int) == 3) := by
  have e0 := bl_at (s := s) (i := 0) (by omega)
  have e1 := bl_at (s := s) (i := 1) (by omega)
  have e2 := bl_at (s := s) (i := 2) (by omega)
  have a0 := h 0 (by omega) (by decide)
  have a1 := h 1 (by omega) (by decide)
  have a2 := h 2 (by omega) (by decide)
  simp [tl] at a0 a1 a2
  unfold foldX
  rw [bl_len, e0, e1, e2, Bool.eq_iff_iff, decide_eq_true_iff, beq_iff_eq]
  omega
theorem fold_short {s : ByteArray} (h3 : s.size < 3) : foldX (bl s) = false := by
  unfold foldX
  rw [bl_len, decide_eq_false_iff_not]
  omega
theorem u8_or (t : Int) (c : Int) (h0 : 0 ≤ c) (h1 : c < 256) (ht : t = 120 ∨ t = 109 ∨ t = 108) : (128 ≤ bits .or .u8 c t) ↔ 128 ≤ c := by
  rcases ht with rfl | rfl | rfl
  · have := byteAll (fun c => (decide (128 ≤ bits .or .u8 c 120)) == decide (128 ≤ c)) (by decide +kernel) c h0 h1
    simpa using this
  · have := byteAll (fun c => (decide (128 ≤ bits .or .u8 c 109)) == decide (128 ≤ c)) (by decide +kernel) c h0 h1
    simpa using this
  · have := byteAll (fun c => (decide (128 ≤ bits .or .u8 c 108)) == decide (128 ≤ c)) (by decide +kernel) c h0 h1
    simpa using this
set_option maxRecDepth 20000 in
set_option maxHeartbeats 1600000 in
theorem equalFold_any (s : ByteArray) (w : World) (hs : s.size ≤ 65536) (ht : Tab w) :
    Calls Tryd.prog 73 #[.string s, .string ⟨#[120, 109, 108]⟩] w fun e w' => e = .returned (.bool (foldX (bl s))) ∧ Below w.heap.size w w' := by
  have HT : Hid _ := ht
  clear ht
  go_enter Tryd.func73, Tryd.ntmps73
  go_wp2_with fail
  refine wp_scope_jumps 0 (EfJ s w) (fun _ _ => 0) rfl ?_ ?_
  · by_cases h3 : 3 < s.size
    · have h3' : ¬ ((s.size : Int) ≤ 3) := by omega
      go_wp2
      go_loopg [5] 3 (fun g v5 wr => wr = w ∧ ∃ i : Nat, i + g = 3 ∧ v5 = .int .i64 i ∧ Hid (∀ (j : Nat) (hj : j < s.size), j < i → (s[j].toNat : Int) = tl j ∨ (s[j].toNat : Int) = tl j - 32))
      case atStart => exact ⟨rfl, 0, by omega, rfl, fun j _ h => by omega⟩
      case round =>
        obtain ⟨rfl, i, hi, rfl, HF⟩ := hrel
        by_cases hlt : i < 3
        · have his : i < s.size := by omega
          have hc0 : (0 : Int) ≤ (s[i].toNat : Int) := by omega
          have hc1 : (s[i].toNat : Int) < 256 := by have := s[i].toNat_lt; omega
          have hN : Hid ((s[i].toNat : Int) ≠ tl i → (s[i].toNat : Int) ≠ tl i - 32 → foldX (bl s) = false) := fun a b => fold_no (by omega) his a b
          have hS : Hid (((s[i].toNat : Int) = tl i ∨ (s[i].toNat : Int) = tl i - 32) → Hid (∀ (j : Nat) (hj : j < s.size), j < i + 1 → (s[j].toNat : Int) = tl j ∨ (s[j].toNat : Int) = tl j - 32)) := by
            intro h j hj hl
            rcases Nat.lt_or_ge j i with h1 | h1
            · exact HF.out j hj h1
            · obtain rfl : j = i := by omega
              exact h
          rcases (by omega : i = 0 ∨ i = 1 ∨ i = 2) with rfl | rfl | rfl
          · have t0 : (((⟨#[120, 109, 108]⟩ : ByteArray)[0]).toNat : Int) = 120 := rfl
            have hor := u8_or 120 _ hc0 hc1 (by simp)
            have hT : tl 0 = 120 := rfl
            rw [hT] at hN hS
            clear hT
            generalize hcc : (s[0].toNat : Int) = c at *
            have HC : Hid ((s[0].toNat : Int) = c) := hcc
            by_cases hbig : 128 ≤ c
            · have hor' := hor.2 hbig
              clear hor hN
              go_wp2
              go_step3
              exact ⟨rfl, rfl, 0, _, _, _, _, _, _, _, _, _, _, _, _, _, _, _, _, _, _, _, _, _, _, _, _, _, _, _, _, _, _, _, _, _, _, _, _, _, _, _, _, _, _, _, _, _, rfl, by decide, his, by rw [HC.out]; exact hbig⟩
            · have hor' : ¬ 128 ≤ bits .or .u8 c 120 := fun h => hbig (hor.1 h)
              clear hor
              go_wp2
              all_goals (first | (simp only [Exit.jump]; go_ret; simp only [beq_iff_eq, beq_eq_false_iff_ne] at *; exact ⟨ret_bool (hN.out (by omega) (by omega)).symm, Below.refl _ _⟩) | (simp only [beq_iff_eq, beq_eq_false_iff_ne] at *; go_roundg 2; (case measure => omega); (case rel => exact ⟨rfl, 1, by omega, rfl, hS.out (by omega)⟩)))
          · have t0 : (((⟨#[120, 109, 108]⟩ : ByteArray)[1]).toNat : Int) = 109 := rfl
            have hor := u8_or 109 _ hc0 hc1 (by simp)
            have hT : tl 1 = 109 := rfl
            rw [hT] at hN hS
            clear hT
            generalize hcc : (s[1].toNat : Int) = c at *
            have HC : Hid ((s[1].toNat : Int) = c) := hcc
            by_cases hbig : 128 ≤ c
            · have hor' := hor.2 hbig
              clear hor hN
              go_wp2
              go_step3
              exact ⟨rfl, rfl, 1, _, _, _, _, _, _, _, _, _, _, _, _, _, _, _, _, _, _, _, _, _, _, _, _, _, _, _, _, _, _, _, _, _, _, _, _, _, _, _, _, _, _, _, _, _, rfl, by decide, his, by rw [HC.out]; exact hbig⟩
            · have hor' : ¬ 128 ≤ bits .or .u8 c 109 := fun h => hbig (hor.1 h)
              clear hor
              go_wp2
              all_goals (first | (simp only [Exit.jump]; go_ret; simp only [beq_iff_eq, beq_eq_false_iff_ne] at *; exact ⟨ret_bool (hN.out (by omega) (by omega)).symm, Below.refl _ _⟩) | (simp only [beq_iff_eq, beq_eq_false_iff_ne] at *; go_roundg 1; (case measure => omega); (case rel => exact ⟨rfl, 2, by omega, rfl, hS.out (by omega)⟩)))
          · have t0 : (((⟨#[120, 109, 108]⟩ : ByteArray)[2]).toNat : Int) = 108 := rfl
            have hor := u8_or 108 _ hc0 hc1 (by simp)
            have hT : tl 2 = 108 := rfl
            rw [hT] at hN hS
            clear hT
            generalize hcc : (s[2].toNat : Int) = c at *
            have HC : Hid ((s[2].toNat : Int) = c) := hcc
            by_cases hbig : 128 ≤ c
            · have hor' := hor.2 hbig
              clear hor hN
              go_wp2
              go_step3
              exact ⟨rfl, rfl, 2, _, _, _, _, _, _, _, _, _, _, _, _, _, _, _, _, _, _, _, _, _, _, _, _, _, _, _, _, _, _, _, _, _, _, _, _, _, _, _, _, _, _, _, _, _, rfl, by decide, his, by rw [HC.out]; exact hbig⟩
            · have hor' : ¬ 128 ≤ bits .or .u8 c 108 := fun h => hbig (hor.1 h)
              clear hor
              go_wp2
              all_goals (first | (simp only [Exit.jump]; go_ret; simp only [beq_iff_eq, beq_eq_false_iff_ne] at *; exact ⟨ret_bool (hN.out (by omega) (by omega)).symm, Below.refl _ _⟩) | (simp only [beq_iff_eq, beq_eq_false_iff_ne] at *; go_roundg 0; (case measure => omega); (case rel => exact ⟨rfl, 3, by omega, rfl, hS.out (by omega)⟩)))
        · have e : i = 3 := by omega
          subst e
          go_wp2
          simp only [Exit.jump]
          go_ret
          exact ⟨ret_bool (fold_end (by omega) HF.out).symm, Below.refl _ _⟩
    · have h3' : (s.size : Int) ≤ 3 := by omega
      go_wp2
      go_loopg [5] s.size (fun g v5 wr => wr = w ∧ ∃ i : Nat, i + g = s.size ∧ v5 = .int .i64 i ∧ Hid (∀ (j : Nat) (hj : j < s.size), j < i → (s[j].toNat : Int) = tl j ∨ (s[j].toNat : Int) = tl j - 32))
      case atStart => exact ⟨rfl, 0, by omega, rfl, fun j _ h => by omega⟩
      case round =>
        obtain ⟨rfl, i, hi, rfl, HF⟩ := hrel
        by_cases hlt : i < s.size
        · have his : i < s.size := by omega
          have hc0 : (0 : Int) ≤ (s[i].toNat : Int) := by omega
          have hc1 : (s[i].toNat : Int) < 256 := by have := s[i].toNat_lt; omega
          have hN : Hid ((s[i].toNat : Int) ≠ tl i → (s[i].toNat : Int) ≠ tl i - 32 → foldX (bl s) = false) := fun a b => fold_no (by omega) his a b
          have hS : Hid (((s[i].toNat : Int) = tl i ∨ (s[i].toNat : Int) = tl i - 32) → Hid (∀ (j : Nat) (hj : j < s.size), j < i + 1 → (s[j].toNat : Int) = tl j ∨ (s[j].toNat : Int) = tl j - 32)) := by
            intro h j hj hl
            rcases Nat.lt_or_ge j i with h1 | h1
            · exact HF.out j hj h1
            · obtain rfl : j = i := by omega
              exact h
          rcases (by omega : i = 0 ∨ i = 1 ∨ i = 2) with rfl | rfl | rfl
          · have t0 : (((⟨#[120, 109, 108]⟩ : ByteArray)[0]).toNat : Int) = 120 := rfl
            have hor := u8_or 120 _ hc0 hc1 (by simp)
            have hT : tl 0 = 120 := rfl
            rw [hT] at hN hS
            clear hT
            generalize hcc : (s[0].toNat : Int) = c at *
            have HC : Hid ((s[0].toNat : Int) = c) := hcc
            by_cases hbig : 128 ≤ c
            · have hor' := hor.2 hbig
              clear hor hN
              go_wp2
              go_step3
              exact ⟨rfl, rfl, 0, _, _, _, _, _, _, _, _, _, _, _, _, _, _, _, _, _, _, _, _, _, _, _, _, _, _, _, _, _, _, _, _, _, _, _, _, _, _, _, _, _, _, _, _, _, rfl, by decide, his, by rw [HC.out]; exact hbig⟩
            · have hor' : ¬ 128 ≤ bits .or .u8 c 120 := fun h => hbig (hor.1 h)
              clear hor
              go_wp2
              all_goals (first | (simp only [Exit.jump]; go_ret; simp only [beq_iff_eq, beq_eq_false_iff_ne] at *; exact ⟨ret_bool (hN.out (by omega) (by omega)).symm, Below.refl _ _⟩) | (simp only [beq_iff_eq, beq_eq_false_iff_ne] at *; go_roundg (s.size - 1); (case measure => omega); (case rel => exact ⟨rfl, 1, by omega, rfl, hS.out (by omega)⟩)))
          · have t0 : (((⟨#[120, 109, 108]⟩ : ByteArray)[1]).toNat : Int) = 109 := rfl
            have hor := u8_or 109 _ hc0 hc1 (by simp)
            have hT : tl 1 = 109 := rfl
            rw [hT] at hN hS
            clear hT
            generalize hcc : (s[1].toNat : Int) = c at *
            have HC : Hid ((s[1].toNat : Int) = c) := hcc
            by_cases hbig : 128 ≤ c
            · have hor' := hor.2 hbig
              clear hor hN
              go_wp2
              go_step3
              exact ⟨rfl, rfl, 1, _, _, _, _, _, _, _, _, _, _, _, _, _, _, _, _, _, _, _, _, _, _, _, _, _, _, _, _, _, _, _, _, _, _, _, _, _, _, _, _, _, _, _, _, _, rfl, by decide, his, by rw [HC.out]; exact hbig⟩
            · have hor' : ¬ 128 ≤ bits .or .u8 c 109 := fun h => hbig (hor.1 h)
              clear hor
              go_wp2
              all_goals (first | (simp only [Exit.jump]; go_ret; simp only [beq_iff_eq, beq_eq_false_iff_ne] at *; exact ⟨ret_bool (hN.out (by omega) (by omega)).symm, Below.refl _ _⟩) | (simp only [beq_iff_eq, beq_eq_false_iff_ne] at *; go_roundg (s.size - 2); (case measure => omega); (case rel => exact ⟨rfl, 2, by omega, rfl, hS.out (by omega)⟩)))
          · have t0 : (((⟨#[120, 109, 108]⟩ : ByteArray)[2]).toNat : Int) = 108 := rfl
            have hor := u8_or 108 _ hc0 hc1 (by simp)
            have hT : tl 2 = 108 := rfl
            rw [hT] at hN hS
            clear hT
            generalize hcc : (s[2].toNat : Int) = c at *
            have HC : Hid ((s[2].toNat : Int) = c) := hcc
            by_cases hbig : 128 ≤ c
            · have hor' := hor.2 hbig
              clear hor hN
              go_wp2
              go_step3
              exact ⟨rfl, rfl, 2, _, _, _, _, _, _, _, _, _, _, _, _, _, _, _, _, _, _, _, _, _, _, _, _, _, _, _, _, _, _, _, _, _, _, _, _, _, _, _, _, _, _, _, _, _, rfl, by decide, his, by rw [HC.out]; exact hbig⟩
            · have hor' : ¬ 128 ≤ bits .or .u8 c 108 := fun h => hbig (hor.1 h)
              clear hor
              go_wp2
              all_goals (first | (simp only [Exit.jump]; go_ret; simp only [beq_iff_eq, beq_eq_false_iff_ne] at *; exact ⟨ret_bool (hN.out (by omega) (by omega)).symm, Below.refl _ _⟩) | (simp only [beq_iff_eq, beq_eq_false_iff_ne] at *; go_roundg (s.size - 3); (case measure => omega); (case rel => exact ⟨rfl, 3, by omega, rfl, hS.out (by omega)⟩)))
        · have e : i = s.size := by omega
          have he : ¬ (i : Int) < (s.size : Int) := by omega
          have HE : Hid (i = s.size) := e
          clear e
          go_wp2
          simp only [Exit.jump]
          go_ret
          refine ⟨ret_bool ?_, Below.refl _ _⟩
          have e := HE.out
          by_cases h : s.size = 3
          · exact (fold_end (by omega) (fun j hj _ => HF.out j hj (by omega))).symm
          · rw [fold_short (by omega)]; simp; omega
  · rintro a' w' ⟨rfl, i, u4, u6, u7, u8, u14, u15, u16, u17, u18, u19, u20, u21, u22, u23, u24, u25, u26, u27, u28, u29, u30, u31, u32, u33, u34, u35, u36, u37, u38, u39, u40, u41, u42, u43, u44, u45, u46, u47, u48, u49, u50, u51, u52, u53, u54, rfl, hi3, his, hbig⟩
    have HN : Hid (foldX (bl s) = false) := fold_no hi3 his (by rcases (by omega : i = 0 ∨ i = 1 ∨ i = 2) with rfl | rfl | rfl <;> simp [tl] <;> omega) (by rcases (by omega : i = 0 ∨ i = 1 ∨ i = 2) with rfl | rfl | rfl <;> simp [tl] <;> omega)
    rcases (by omega : i = 0 ∨ i = 1 ∨ i = 2) with rfl | rfl | rfl
    · have t1 : (⟨#[120, 109, 108]⟩ : ByteArray).extract 0 3 = ⟨#[120, 109, 108]⟩ := rfl
      obtain ⟨u, hu⟩ : ∃ u, u = s := ⟨_, rfl⟩
      have hu0 : 0 < u.size := by rw [hu]; exact his
      have hub : 128 ≤ (u[0].toNat) := by
        subst hu
        exact_mod_cast hbig
      have hit := World.iter_heap w' u 0
      have hdh := (decode_high u 0 hu0 hub).1
      have hnx := fun ty => Lib.run_next_any_at (P := Tryd.prog) (w'.iter u 0) w'.heap.size u 0 ty hit hu0
      have hg : w'.grownBy ((w'.iter u 0).iterAt w'.heap.size u (0 + (Utf8.decode u 0).2)) none := grownBy_iterAt (World.grownBy_alloc _ _ _) (Nat.le_refl _) _ _
      have hT := HT.out.far hg (by simp)
      generalize (w'.iter u 0).iterAt w'.heap.size u (0 + (Utf8.decode u 0).2) = w2 at *
      obtain ⟨r, hr⟩ : ∃ r : Int, r = ((Utf8.decode u 0).1 : Int) := ⟨_, rfl⟩
      have hr1 : 128 ≤ r := by omega
      have hne : (120 == r) = false := beq_eq_false_iff_ne.2 (by omega)
      rw [← hr] at hnx
      have c1 := hT.a
      have c2 := hT.b
      clear hdh hr hT hit
      go_wp2
      rw [← hu]
      clear hu
      go_wp2
      refine wp_loop_rounds 1 ?_
      rw [rounds_succ]
      go_wp2_with (first | (go_at_call 87; refine (drune_0 _).mono ?_; rintro e w3 ⟨rfl, rfl⟩) | (go_at_call 88; refine (sfold_i 120 88 _ (by decide) (by decide) (by decide) (by decide) c1).mono ?_; rintro e w3 ⟨rfl, rfl⟩))
      refine wp_loop_rounds 2 ?_
      rw [rounds_succ]
      go_wp2_with (first | (go_at_call 88; refine (sfold_i 88 120 _ (by decide) (by decide) (by decide) (by decide) c2).mono ?_; rintro e w3 ⟨rfl, rfl⟩))
      rw [rounds_succ]
      go_wp2
      simp only [Exit.jump]
      go_ret
      exact ⟨ret_bool HN.out.symm, ⟨hg.os, hg.tape, hg.output, hg.size, fun k hk => hg.block k hk (by simp)⟩⟩
    · have t1 : (⟨#[120, 109, 108]⟩ : ByteArray).extract 1 3 = ⟨#[109, 108]⟩ := rfl
      obtain ⟨u, hu⟩ : ∃ u, u = (s.extract 1 s.size) := ⟨_, rfl⟩
      have hu0 : 0 < u.size := by rw [hu]; simp; omega
      have hub : 128 ≤ (u[0].toNat) := by
        subst hu
        have e : (s.extract 1 s.size)[0] = s[1] := by simp [ByteArray.getElem_extract]
        rw [e]; exact_mod_cast hbig
      have hit := World.iter_heap w' u 0
      have hdh := (decode_high u 0 hu0 hub).1
      have hnx := fun ty => Lib.run_next_any_at (P := Tryd.prog) (w'.iter u 0) w'.heap.size u 0 ty hit hu0
      have hg : w'.grownBy ((w'.iter u 0).iterAt w'.heap.size u (0 + (Utf8.decode u 0).2)) none := grownBy_iterAt (World.grownBy_alloc _ _ _) (Nat.le_refl _) _ _
      have hT := HT.out.far hg (by simp)
      generalize (w'.iter u 0).iterAt w'.heap.size u (0 + (Utf8.decode u 0).2) = w2 at *
      obtain ⟨r, hr⟩ : ∃ r : Int, r = ((Utf8.decode u 0).1 : Int) := ⟨_, rfl⟩
      have hr1 : 128 ≤ r := by omega
      have hne : (109 == r) = false := beq_eq_false_iff_ne.2 (by omega)
      rw [← hr] at hnx
      have c1 := hT.c
      have c2 := hT.d
      clear hdh hr hT hit
      go_wp2
      rw [← hu]
      clear hu
      go_wp2
      refine wp_loop_rounds 1 ?_
      rw [rounds_succ]
      go_wp2_with (first | (go_at_call 87; refine (drune_1 _).mono ?_; rintro e w3 ⟨rfl, rfl⟩) | (go_at_call 88; refine (sfold_i 109 77 _ (by decide) (by decide) (by decide) (by decide) c1).mono ?_; rintro e w3 ⟨rfl, rfl⟩))
      refine wp_loop_rounds 2 ?_
      rw [rounds_succ]
      go_wp2_with (first | (go_at_call 88; refine (sfold_i 77 109 _ (by decide) (by decide) (by decide) (by decide) c2).mono ?_; rintro e w3 ⟨rfl, rfl⟩))
      rw [rounds_succ]
      go_wp2
      simp only [Exit.jump]
      go_ret
      exact ⟨ret_bool HN.out.symm, ⟨hg.os, hg.tape, hg.output, hg.size, fun k hk => hg.block k hk (by simp)⟩⟩
    · have t1 : (⟨#[120, 109, 108]⟩ : ByteArray).extract 2 3 = ⟨#[108]⟩ := rfl
      obtain ⟨u, hu⟩ : ∃ u, u = (s.extract 2 s.size) := ⟨_, rfl⟩
      have hu0 : 0 < u.size := by rw [hu]; simp; omega
      have hub : 128 ≤ (u[0].toNat) := by
        subst hu
        have e : (s.extract 2 s.size)[0] = s[2] := by simp [ByteArray.getElem_extract]
        rw [e]; exact_mod_cast hbig
      have hit := World.iter_heap w' u 0
      have hdh := (decode_high u 0 hu0 hub).1
      have hnx := fun ty => Lib.run_next_any_at (P := Tryd.prog) (w'.iter u 0) w'.heap.size u 0 ty hit hu0
      have hg : w'.grownBy ((w'.iter u 0).iterAt w'.heap.size u (0 + (Utf8.decode u 0).2)) none := grownBy_iterAt (World.grownBy_alloc _ _ _) (Nat.le_refl _) _ _
      have hT := HT.out.far hg (by simp)
      generalize (w'.iter u 0).iterAt w'.heap.size u (0 + (Utf8.decode u 0).2) = w2 at *
      obtain ⟨r, hr⟩ : ∃ r : Int, r = ((Utf8.decode u 0).1 : Int) := ⟨_, rfl⟩
      have hr1 : 128 ≤ r := by omega
      have hne : (108 == r) = false := beq_eq_false_iff_ne.2 (by omega)
      rw [← hr] at hnx
      have c1 := hT.e
      have c2 := hT.f
      clear hdh hr hT hit
      go_wp2
      rw [← hu]
      clear hu
      go_wp2
      refine wp_loop_rounds 1 ?_
      rw [rounds_succ]
      go_wp2_with (first | (go_at_call 87; refine (drune_2 _).mono ?_; rintro e w3 ⟨rfl, rfl⟩) | (go_at_call 88; refine (sfold_i 108 76 _ (by decide) (by decide) (by decide) (by decide) c1).mono ?_; rintro e w3 ⟨rfl, rfl⟩))
      refine wp_loop_rounds 2 ?_
      rw [rounds_succ]
      go_wp2_with (first | (go_at_call 88; refine (sfold_i 76 108 _ (by decide) (by decide) (by decide) (by decide) c2).mono ?_; rintro e w3 ⟨rfl, rfl⟩))
      rw [rounds_succ]
      go_wp2
      simp only [Exit.jump]
      go_ret
      exact ⟨ret_bool HN.out.symm, ⟨hg.os, hg.tape, hg.output, hg.size, fun k hk => hg.block k hk (by simp)⟩⟩
end Go.Proofs.YtjcgnbmpnaapdaaDoor
