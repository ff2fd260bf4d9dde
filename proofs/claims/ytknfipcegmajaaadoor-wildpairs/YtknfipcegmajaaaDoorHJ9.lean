/- Joined: HChLeaf, HChDec, HChRef, HChRight, HChTok. -/
import Derived.Test.YtknfipcegmajaaaDoorProg
import Derived.Test.YtknfipcegmajaaaDoorHJ7
import Derived.Test.YtknfipcegmajaaaDoorHChBits
import Derived.WalkKit
import Derived.WalkSpells
import Derived.WalkLawsBesides
import Derived.Laws.IdiomStrings
namespace Go.Proofs.YtknfipcegmajaaaDoor.Ch
open Go.RowKit

theorem ret_int {k : IntKind} {a b : Int} (h : a = b) : Ending.returned (.int k a) = .returned (.int k b) := by rw [h]
theorem ret_bool {a b : Bool} (h : a = b) : Ending.returned (.bool a) = .returned (.bool b) := by rw [h]

set_option maxHeartbeats 400000 in
theorem white_any (r : Int) (w : World) :
    Calls Tryd.prog 51 #[.int .i32 r] w fun e w' => e = .returned (.bool (isWhite r)) ∧ w' = w := by
  go_enter Tryd.func51, Tryd.ntmps51
  go_wp2
  all_goals
    go_ret
    refine ⟨ret_bool ?_, rfl⟩
    unfold isWhite
    rw [Bool.eq_iff_iff]
    simp at *
    omega

set_option maxHeartbeats 400000 in
theorem rwhite_any (r : Int) (w : World) :
    Calls Tryd.prog 44 #[.int .i64 r] w fun e w' => e = .returned (.bool (isWhite r)) ∧ w' = w := by
  go_enter Tryd.func44, Tryd.ntmps44
  go_wp2
  all_goals
    go_ret
    refine ⟨ret_bool ?_, rfl⟩
    unfold isWhite
    rw [Bool.eq_iff_iff]
    simp at *
    omega

end Go.Proofs.YtknfipcegmajaaaDoor.Ch
namespace Go.Proofs.YtknfipcegmajaaaDoor.Ch
open Go.RowKit
set_option linter.unusedVariables false

theorem ret_pair {k m : IntKind} {a b : Int} {p : Int × Int} (h : p = (a, b)) : Ending.returned (.tuple #[.int k a, .int m b]) = .returned (.tuple #[.int k p.1, .int m p.2]) := by rw [h]
theorem tl_yes {c : Int} (h : (c / 64 != 2) = false) : isTl c = true := by
  unfold isTl; simp at *; omega
theorem tl_no {c : Int} (h : (c / 64 != 2) = true) : isTl c = false := by
  unfold isTl; simp at *; omega
theorem fin_bad {r n : Int} (h : (wid r != n) = true) : fin r n = (-1, 0) := by
  unfold fin; simp at h; rw [if_neg h]
theorem fin_ok {r n : Int} (h : (wid r != n) = false) : fin r n = (r, n) := by
  unfold fin; simp at h; rw [if_pos h]

/-- A slice of bytes as it lies in memory: its bytes are the list. -/
def Bts (w : World) (a : Option Addr) (l : List Int) : Prop :=
  (∀ i, 0 ≤ l.getD i 0 ∧ l.getD i 0 < 256) ∧ (l = [] ∨ ∃ b o, a = some ⟨b, o, none⟩ ∧ ∀ i, i < l.length → w.cell? ⟨b, o + i, none⟩ = some (.int .u8 (l.getD i 0)))

end Go.Proofs.YtknfipcegmajaaaDoor.Ch
namespace Go.Proofs.YtknfipcegmajaaaDoor.Ch
open Go.RowKit
set_option linter.unusedVariables false

def tlv (l : List Int) (i : Nat) : Int := if i < l.length ∧ isTl (l.getD i 0) = true then l.getD i 0 % 64 else -1
theorem tlv_bd (l : List Int) (i : Nat) : tlv l i = -1 ∨ (0 ≤ tlv l i ∧ tlv l i < 64) := by
  unfold tlv; split <;> omega

theorem dec_2 {l : List Int} (hl : ¬ l.length = 0) (c0 : 192 ≤ l.getD 0 0) (c1 : l.getD 0 0 < 224) : dec l = if 0 ≤ tlv l 1 then fin (l.getD 0 0 % 32 * 64 + tlv l 1) 2 else (-1, 0) := by
  unfold dec dec2 tlv
  rw [if_neg hl, if_neg (by omega), if_neg (by omega), if_pos c1]
  by_cases g : 2 ≤ l.length
  · by_cases t : isTl (l.getD 1 0) = true
    · rw [if_pos g, if_pos t, if_pos (c := 1 < l.length ∧ _) ⟨by omega, t⟩, if_pos (by omega)]
    · rw [if_pos g, if_neg t, if_neg (c := 1 < l.length ∧ _) (fun h => t h.2), if_neg (by omega)]
  · rw [if_neg g, if_neg (c := 1 < l.length ∧ _) (fun h => by omega), if_neg (by omega)]
theorem dec_3 {l : List Int} (hl : ¬ l.length = 0) (c0 : 224 ≤ l.getD 0 0) (c1 : l.getD 0 0 < 240) : dec l = if 0 ≤ tlv l 1 ∧ 0 ≤ tlv l 2 then fin ((l.getD 0 0 % 16 * 64 + tlv l 1) * 64 + tlv l 2) 3 else (-1, 0) := by
  unfold dec dec3 tlv
  rw [if_neg hl, if_neg (by omega), if_neg (by omega), if_neg (by omega), if_pos c1]
  by_cases g : 3 ≤ l.length
  · by_cases t : isTl (l.getD 1 0) = true
    · by_cases u : isTl (l.getD 2 0) = true
      · rw [if_pos g, if_pos ⟨t, u⟩, if_pos (c := 1 < l.length ∧ _) ⟨by omega, t⟩, if_pos (c := 2 < l.length ∧ _) ⟨by omega, u⟩, if_pos (by omega)]
      · rw [if_pos g, if_neg (fun h => u h.2), if_neg (c := 2 < l.length ∧ _) (fun h => u h.2), if_neg (fun h => by omega)]
    · rw [if_pos g, if_neg (fun h => t h.1), if_neg (c := 1 < l.length ∧ _) (fun h => t h.2), if_neg (fun h => by omega)]
  · rw [if_neg g, if_neg (c := 2 < l.length ∧ _) (fun h => by omega), if_neg (fun h => by omega)]
theorem dec_4 {l : List Int} (hl : ¬ l.length = 0) (c0 : 240 ≤ l.getD 0 0) (c1 : l.getD 0 0 < 248) : dec l = if 0 ≤ tlv l 1 ∧ 0 ≤ tlv l 2 ∧ 0 ≤ tlv l 3 then fin (((l.getD 0 0 % 8 * 64 + tlv l 1) * 64 + tlv l 2) * 64 + tlv l 3) 4 else (-1, 0) := by
  unfold dec dec4 tlv
  rw [if_neg hl, if_neg (by omega), if_neg (by omega), if_neg (by omega), if_neg (by omega), if_pos c1]
  by_cases g : 4 ≤ l.length
  · by_cases t : isTl (l.getD 1 0) = true
    · by_cases u : isTl (l.getD 2 0) = true
      · by_cases v : isTl (l.getD 3 0) = true
        · rw [if_pos g, if_pos ⟨t, u, v⟩, if_pos (c := 1 < l.length ∧ _) ⟨by omega, t⟩, if_pos (c := 2 < l.length ∧ _) ⟨by omega, u⟩, if_pos (c := 3 < l.length ∧ _) ⟨by omega, v⟩, if_pos (by omega)]
        · rw [if_pos g, if_neg (fun h => v h.2.2), if_neg (c := 3 < l.length ∧ _) (fun h => v h.2), if_neg (fun h => by omega)]
      · rw [if_pos g, if_neg (fun h => u h.2.1), if_neg (c := 2 < l.length ∧ _) (fun h => u h.2), if_neg (fun h => by omega)]
    · rw [if_pos g, if_neg (fun h => t h.1), if_neg (c := 1 < l.length ∧ _) (fun h => t h.2), if_neg (fun h => by omega)]
  · rw [if_neg g, if_neg (c := 3 < l.length ∧ _) (fun h => by omega), if_neg (fun h => by omega)]

theorem fin_no {r n : Int} (h : ¬ wid r = n) : fin r n = (-1, 0) := by unfold fin; rw [if_neg h]
theorem fin_yes {r n : Int} (h : wid r = n) : fin r n = (r, n) := by unfold fin; rw [if_pos h]

end Go.Proofs.YtknfipcegmajaaaDoor.Ch
namespace Go.Proofs.YtknfipcegmajaaaDoor.Ch
open Go.RowKit
set_option linter.unusedVariables false

theorem getD_drop (l : List Int) (k i : Nat) : (l.drop k).getD i 0 = l.getD (k + i) 0 := by
  simp [List.getD_eq_getElem?_getD, List.getElem?_drop]
theorem Bts.drop {w : World} {b o : Nat} {l : List Int} (h : Bts w (some ⟨b, o, none⟩) l) (k : Nat) : Bts w (some ⟨b, o + k, none⟩) (l.drop k) := by
  refine ⟨fun i => by rw [getD_drop]; exact h.1 _, ?_⟩
  by_cases hk : k < l.length
  · rcases h.2 with rfl | ⟨b', o', he, hc⟩
    · simp at hk
    · refine .inr ⟨b, o + k, rfl, fun i hi => ?_⟩
      simp at he
      obtain ⟨rfl, rfl⟩ := he
      rw [getD_drop, Nat.add_assoc]
      exact hc (k + i) (by simp at hi; omega)
  · exact .inl (List.drop_eq_nil_of_le (by omega))
theorem ret_ib {a b : Int} {p q : Bool} (h : a = b) (g : p = q) : Ending.returned (.tuple #[.int .i64 a, .bool p]) = .returned (.tuple #[.int .i64 b, .bool q]) := by rw [h, g]

end Go.Proofs.YtknfipcegmajaaaDoor.Ch
namespace Go.Proofs.YtknfipcegmajaaaDoor.Ch
open Go.RowKit
set_option linter.unusedVariables false

/-- A text's bytes, as numbers. -/
def bl (s : ByteArray) : List Int := s.data.toList.map fun c => (c.toNat : Int)
theorem bl_len (s : ByteArray) : (bl s).length = s.size := by simp [bl]
theorem bl_bd (s : ByteArray) (i : Nat) : 0 ≤ (bl s).getD i 0 ∧ (bl s).getD i 0 < 256 := by
  unfold bl
  rw [List.getD_eq_getElem?_getD, List.getElem?_map]
  cases s.data.toList[i]? with
  | none => simp
  | some c => simp; have := c.toNat_lt; omega

theorem conv_bytes (s : ByteArray) (w : World) (hs : s.size ≤ maxLen) : ∃ cap w1, s.size ≤ cap ∧ cap ≤ maxLen ∧
    (convert 9 47 (.string s)).run Tryd.prog w = .ok (.slice (some ⟨w.heap.size, 0, none⟩) s.size cap) w1 ∧ Below w.heap.size w w1 ∧ w.heap.size < w1.heap.size ∧
    Bts w1 (some ⟨w.heap.size, 0, none⟩) (bl s) := by
  refine ⟨grownCap w s.size 0 5, _, grownCap_ge _ _ _ _, grownCap_le_maxLen _ _ _ _ hs, run_bytes_of_string w 9 47 5 s Tryd.underlying9 Tryd.underlying47 Tryd.underlying5, ?_, ?_, ?_⟩
  · exact (Below.refl _ _).drew.alloc (Nat.le_refl _) _
  · simp
  · refine ⟨bl_bd s, .inr ⟨_, _, rfl, fun i hi => ?_⟩⟩
    rw [bl_len] at hi
    have h := World.cell?_alloc_mark w.drew (bytesRow s (grownCap w s.size 0 5)) 5 ((bytesRow s (grownCap w s.size 0 5)).size, (bytesRow s (grownCap w s.size 0 5)).size + 1) i
    rw [Nat.zero_add]
    refine h.trans ?_
    rw [bytesRow_at s _ i hi]
    simp [bl, List.getD_eq_getElem?_getD, hi]

theorem max_ite (d : Int) : (if d < 1 then 1 else d) = max d 1 := by split <;> omega
def tokB (l : List Int) : Bool := tok l.length l && decide (0 < l.length)

def nameB (l : List Int) : Bool := isStart (dec l).1 && tokB l

end Go.Proofs.YtknfipcegmajaaaDoor.Ch
