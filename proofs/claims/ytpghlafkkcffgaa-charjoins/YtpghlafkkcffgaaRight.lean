/- Contracts of Right, of the program and of the reference. -/
import Derived.Test.YtpghlafkkcffgaaRef
import Derived.Test.YtpghlafkkcffgaaSpec2
namespace Go.Proofs.Ytpghlafkkcffgaa
open Go.RowKit
set_option linter.unusedVariables false

theorem getD_drop (l : List Int) (k i : Nat) : (l.drop k).getD i 0 = l.getD (k + i) 0 := by
  simp [List.getD_eq_getElem?_getD, List.getElem?_drop]
theorem Bts.drop {w : World} {b o : Nat} {l : List Int} (h : Bts w (some ⟨b, o, none⟩) l) (k : Nat) : Bts w (some ⟨b, o + k, none⟩) (l.drop k) := by
  refine ⟨fun i => by rw [getD_drop]; exact h.1 _, ?_⟩
  by_cases hk : k < l.length
  · rcases h.2 with rfl | ⟨b', o', he, hc⟩
    · simp at hk
    · refine .inr ⟨b, o + k, rfl, fun i hi => ?_⟩
      simp at he
      obtain ⟨rfl, rfl⟩ := he
      rw [getD_drop, Nat.add_assoc]
      exact hc (k + i) (by simp at hi; omega)
  · exact .inl (List.drop_eq_nil_of_le (by omega))
theorem decode_at (b o k : Nat) (l : List Int) (len cap : Nat) (w : World) (hl : l.length - k = len) (hc : l.length ≤ cap) (hm : cap ≤ maxLen) (hb : Bts w (some ⟨b, o, none⟩) l) :
    Calls Try.prog 8 #[.slice (some ⟨b, o + k, none⟩) len (cap - k)] w fun e w' => e = .returned (.tuple #[.int .i32 (dec (l.drop k)).1, .int .i64 (dec (l.drop k)).2]) ∧ w' = w := by
  have := decode_any _ _ (cap - k) w (by simp; omega) (by omega) (hb.drop k)
  rw [List.length_drop, hl] at this
  exact this
theorem rdecode_at (b o k : Nat) (l : List Int) (len cap : Nat) (w : World) (hl : l.length - k = len) (hc : l.length ≤ cap) (hm : cap ≤ maxLen) (hb : Bts w (some ⟨b, o, none⟩) l) :
    Calls Try.prog 9 #[.slice (some ⟨b, o + k, none⟩) len (cap - k)] w fun e w' => e = .returned (.tuple #[.int .i64 (dec (l.drop k)).1, .int .i64 (dec (l.drop k)).2]) ∧ w' = w := by
  have := rdecode_any _ _ (cap - k) w (by simp; omega) (by omega) (hb.drop k)
  rw [List.length_drop, hl] at this
  exact this

theorem ret_ib {a b : Int} {p q : Bool} (h : a = b) (g : p = q) : Ending.returned (.tuple #[.int .i64 a, .bool p]) = .returned (.tuple #[.int .i64 b, .bool q]) := by rw [h, g]

set_option maxHeartbeats 400000 in
theorem right_some (b o cap : Nat) (l : List Int) (w : World) (hc : l.length ≤ cap) (hm : cap ≤ maxLen) (hb : Bts w (some ⟨b, o, none⟩) l) :
    Calls Try.prog 10 #[.slice (some ⟨b, o, none⟩) l.length cap] w fun e w' => e = .returned (.tuple #[.int .i64 (rgt l.length l).1, .bool (rgt l.length l).2]) ∧ w' = w := by
  have hm' := hm
  unfold maxLen at hm'
  go_enter Try.func10, Try.ntmps10
  go_wp2
  go_loop [4] (fun at_ => ∃ k n : Nat, k ≤ l.length ∧ l.length - k ≤ n ∧ at_ = .int .i64 k ∧ k + (rgt n (l.drop k)).1 = (rgt l.length l).1 ∧ (rgt n (l.drop k)).2 = (rgt l.length l).2) (fun i => l.length - (intOf i).toNat)
  case atStart => exact ⟨0, l.length, Nat.zero_le _, Nat.le_refl _, rfl, by simp, by simp⟩
  case round =>
    obtain ⟨k, n, hk, hn, rfl, r1, r2⟩ := hrel
    have R1 : Hid _ := r1
    have R2 : Hid _ := r2
    clear r1 r2
    by_cases hlt : k < l.length
    · have hcp : ¬ cap = k := by omega
      have hd0 : ¬ (l.drop k).length = 0 := by simp; omega
      have hdb := dec_bd (l.drop k)
      obtain ⟨n, rfl⟩ : ∃ m, n = m + 1 := ⟨n - 1, by omega⟩
      by_cases hz : (dec (l.drop k)).2 = 0
      · have hs : Hid _ := rgt_bad n _ hd0 (.inl hz)
        go_wp2_with (go_at_call 8; refine (decode_at b o k l _ cap _ rfl hc hm hb).mono ?_; rintro e w' ⟨rfl, rfl⟩)
        go_ret2
        refine ⟨ret_ib ?_ ?_, rfl⟩
        · rw [← R1.out, hs.out]; simp
        · rw [← R2.out, hs.out]
      · have hzb : ((dec (l.drop k)).2 == 0) = false := beq_eq_false_iff_ne.2 hz
        have hdl : (dec (l.drop k)).2 ≤ l.length - k := by
          rcases hdb with h | h
          · exact absurd h hz
          · have := h.2.2; simp at this; omega
        have hd1 : 1 ≤ (dec (l.drop k)).2 := by omega
        have hd4 : (dec (l.drop k)).2 ≤ 4 := by omega
        clear hdb
        by_cases hch : isChar (dec (l.drop k)).1 = false
        · have hs : Hid _ := rgt_bad n _ hd0 (.inr hch)
          go_wp2_with (first | (go_at_call 8; refine (decode_at b o k l _ cap _ rfl hc hm hb).mono ?_; rintro e w' ⟨rfl, rfl⟩) | (go_at_call 16; refine (char_any _ _).mono ?_; rintro e w' ⟨rfl, rfl⟩))
          go_ret2
          refine ⟨ret_ib ?_ ?_, rfl⟩
          · rw [← R1.out, hs.out]; simp
          · rw [← R2.out, hs.out]
        · have hs : Hid _ := rgt_step n _ hd0 (fun h => h.elim hz hch)
          have hch' : isChar (dec (l.drop k)).1 = true := by simpa using hch
          clear hch hz
          go_wp2_with (first | (go_at_call 8; refine (decode_at b o k l _ cap _ rfl hc hm hb).mono ?_; rintro e w' ⟨rfl, rfl⟩) | (go_at_call 16; refine (char_any _ _).mono ?_; rintro e w' ⟨rfl, rfl⟩))
          go_round
          case rel =>
            refine ⟨k + (dec (l.drop k)).2.toNat, n, by omega, by omega, by rw [Int.natCast_add, Int.toNat_of_nonneg (by omega)], ?_, ?_⟩
            · rw [← R1.out, hs.out, List.drop_drop]; simp; omega
            · rw [← R2.out, hs.out, List.drop_drop]
          case measure => simp [intOf]; omega
    · have hs : Hid _ := rgt_end n (l.drop k) (by simp; omega)
      go_wp2
      go_ret2
      refine ⟨ret_ib ?_ ?_, rfl⟩
      · rw [← R1.out, hs.out]; simp
      · rw [← R2.out, hs.out]

set_option maxHeartbeats 400000 in
theorem right_none (a : Option Addr) (cap : Nat) (w : World) :
    Calls Try.prog 10 #[.slice a 0 cap] w fun e w' => e = .returned (.tuple #[.int .i64 0, .bool true]) ∧ w' = w := by
  go_enter Try.func10, Try.ntmps10
  go_wp2
  refine wp_loop_rounds 1 ?_
  rw [rounds_succ]
  go_wp2
  go_ret2
  exact ⟨rfl, rfl⟩

theorem right_any (a : Option Addr) (l : List Int) (cap : Nat) (w : World) (hc : l.length ≤ cap) (hm : cap ≤ maxLen) (hb : Bts w a l) :
    Calls Try.prog 10 #[.slice a l.length cap] w fun e w' => e = .returned (.tuple #[.int .i64 (rgt l.length l).1, .bool (rgt l.length l).2]) ∧ w' = w := by
  rcases hb.2 with rfl | ⟨b, o, rfl, hcell⟩
  · exact right_none a cap w
  · exact right_some b o cap l w hc hm hb

set_option maxHeartbeats 400000 in
theorem rright_some (b o cap : Nat) (l : List Int) (w : World) (hc : l.length ≤ cap) (hm : cap ≤ maxLen) (hb : Bts w (some ⟨b, o, none⟩) l) :
    Calls Try.prog 11 #[.slice (some ⟨b, o, none⟩) l.length cap] w fun e w' => e = .returned (.tuple #[.int .i64 (rgt l.length l).1, .bool (rgt l.length l).2]) ∧ w' = w := by
  have hm' := hm
  unfold maxLen at hm'
  go_enter Try.func11, Try.ntmps11
  go_wp2
  go_loop [4] (fun at_ => ∃ k n : Nat, k ≤ l.length ∧ l.length - k ≤ n ∧ at_ = .int .i64 k ∧ k + (rgt n (l.drop k)).1 = (rgt l.length l).1 ∧ (rgt n (l.drop k)).2 = (rgt l.length l).2) (fun i => l.length - (intOf i).toNat)
  case atStart => exact ⟨0, l.length, Nat.zero_le _, Nat.le_refl _, rfl, by simp, by simp⟩
  case round =>
    obtain ⟨k, n, hk, hn, rfl, r1, r2⟩ := hrel
    have R1 : Hid _ := r1
    have R2 : Hid _ := r2
    clear r1 r2
    by_cases hlt : k < l.length
    · have hcp : ¬ cap = k := by omega
      have hd0 : ¬ (l.drop k).length = 0 := by simp; omega
      have hdb := dec_bd (l.drop k)
      obtain ⟨n, rfl⟩ : ∃ m, n = m + 1 := ⟨n - 1, by omega⟩
      by_cases hz : (dec (l.drop k)).2 = 0
      · have hs : Hid _ := rgt_bad n _ hd0 (.inl hz)
        go_wp2_with (go_at_call 9; refine (rdecode_at b o k l _ cap _ rfl hc hm hb).mono ?_; rintro e w' ⟨rfl, rfl⟩)
        go_ret2
        refine ⟨ret_ib ?_ ?_, rfl⟩
        · rw [← R1.out, hs.out]; simp
        · rw [← R2.out, hs.out]
      · have hzb : ((dec (l.drop k)).2 == 0) = false := beq_eq_false_iff_ne.2 hz
        have hdl : (dec (l.drop k)).2 ≤ l.length - k := by
          rcases hdb with h | h
          · exact absurd h hz
          · have := h.2.2; simp at this; omega
        have hd1 : 1 ≤ (dec (l.drop k)).2 := by omega
        have hd4 : (dec (l.drop k)).2 ≤ 4 := by omega
        clear hdb
        by_cases hch : isChar (dec (l.drop k)).1 = false
        · have hs : Hid _ := rgt_bad n _ hd0 (.inr hch)
          go_wp2_with (first | (go_at_call 9; refine (rdecode_at b o k l _ cap _ rfl hc hm hb).mono ?_; rintro e w' ⟨rfl, rfl⟩) | (go_at_call 17; refine (rchar_any _ _).mono ?_; rintro e w' ⟨rfl, rfl⟩))
          go_ret2
          refine ⟨ret_ib ?_ ?_, rfl⟩
          · rw [← R1.out, hs.out]; simp
          · rw [← R2.out, hs.out]
        · have hs : Hid _ := rgt_step n _ hd0 (fun h => h.elim hz hch)
          have hch' : isChar (dec (l.drop k)).1 = true := by simpa using hch
          clear hch hz
          go_wp2_with (first | (go_at_call 9; refine (rdecode_at b o k l _ cap _ rfl hc hm hb).mono ?_; rintro e w' ⟨rfl, rfl⟩) | (go_at_call 17; refine (rchar_any _ _).mono ?_; rintro e w' ⟨rfl, rfl⟩))
          go_round
          case rel =>
            refine ⟨k + (dec (l.drop k)).2.toNat, n, by omega, by omega, by rw [Int.natCast_add, Int.toNat_of_nonneg (by omega)], ?_, ?_⟩
            · rw [← R1.out, hs.out, List.drop_drop]; simp; omega
            · rw [← R2.out, hs.out, List.drop_drop]
          case measure => simp [intOf]; omega
    · have hs : Hid _ := rgt_end n (l.drop k) (by simp; omega)
      go_wp2
      go_ret2
      refine ⟨ret_ib ?_ ?_, rfl⟩
      · rw [← R1.out, hs.out]; simp
      · rw [← R2.out, hs.out]

set_option maxHeartbeats 400000 in
theorem rright_none (a : Option Addr) (cap : Nat) (w : World) :
    Calls Try.prog 11 #[.slice a 0 cap] w fun e w' => e = .returned (.tuple #[.int .i64 0, .bool true]) ∧ w' = w := by
  go_enter Try.func11, Try.ntmps11
  go_wp2
  refine wp_loop_rounds 1 ?_
  rw [rounds_succ]
  go_wp2
  go_ret2
  exact ⟨rfl, rfl⟩

theorem rright_any (a : Option Addr) (l : List Int) (cap : Nat) (w : World) (hc : l.length ≤ cap) (hm : cap ≤ maxLen) (hb : Bts w a l) :
    Calls Try.prog 11 #[.slice a l.length cap] w fun e w' => e = .returned (.tuple #[.int .i64 (rgt l.length l).1, .bool (rgt l.length l).2]) ∧ w' = w := by
  rcases hb.2 with rfl | ⟨b, o, rfl, hcell⟩
  · exact rright_none a cap w
  · exact rright_some b o cap l w hc hm hb

end Go.Proofs.Ytpghlafkkcffgaa
