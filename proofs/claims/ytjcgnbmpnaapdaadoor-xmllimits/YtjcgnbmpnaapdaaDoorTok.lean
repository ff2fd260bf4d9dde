/- Contracts of Count, Token and Name, of the program and of the reference. -/
import Derived.Test.YtjcgnbmpnaapdaaDoorDec
import Derived.Laws.IdiomStrings
namespace Go.Proofs.YtjcgnbmpnaapdaaDoor
open Go.RowKit
set_option linter.unusedVariables false

/-- A text's bytes, as numbers. -/
def bl (s : ByteArray) : List Int := s.data.toList.map fun c => (c.toNat : Int)
theorem bl_len (s : ByteArray) : (bl s).length = s.size := by simp [bl]
theorem bl_bd (s : ByteArray) (i : Nat) : 0 ≤ (bl s).getD i 0 ∧ (bl s).getD i 0 < 256 := by
  unfold bl
  rw [List.getD_eq_getElem?_getD, List.getElem?_map]
  cases s.data.toList[i]? with
  | none => simp
  | some c => simp; have := c.toNat_lt; omega

theorem conv_bytes (s : ByteArray) (w : World) (hs : s.size ≤ maxLen) : ∃ cap w1, s.size ≤ cap ∧ cap ≤ maxLen ∧
    (convert 9 25 (.string s)).run Tryd.prog w = .ok (.slice (some ⟨w.heap.size, 0, none⟩) s.size cap) w1 ∧ Below w.heap.size w w1 ∧ w.heap.size < w1.heap.size ∧
    Bts w1 (some ⟨w.heap.size, 0, none⟩) (bl s) := by
  refine ⟨grownCap w s.size 0 5, _, grownCap_ge _ _ _ _, grownCap_le_maxLen _ _ _ _ hs, run_bytes_of_string w 9 25 5 s Tryd.underlying9 Tryd.underlying25 Tryd.underlying5, ?_, ?_, ?_⟩
  · exact (Below.refl _ _).drew.alloc (Nat.le_refl _) _
  · simp
  · refine ⟨bl_bd s, .inr ⟨_, _, rfl, fun i hi => ?_⟩⟩
    rw [bl_len] at hi
    have h := World.cell?_alloc_mark w.drew (bytesRow s (grownCap w s.size 0 5)) 5 ((bytesRow s (grownCap w s.size 0 5)).size, (bytesRow s (grownCap w s.size 0 5)).size + 1) i
    rw [Nat.zero_add]
    refine h.trans ?_
    rw [bytesRow_at s _ i hi]
    simp [bl, List.getD_eq_getElem?_getD, hi]

theorem getD_drop (l : List Int) (k i : Nat) : (l.drop k).getD i 0 = l.getD (k + i) 0 := by
  simp [List.getD_eq_getElem?_getD, List.getElem?_drop]
theorem Bts.drop {w : World} {b o : Nat} {l : List Int} (h : Bts w (some ⟨b, o, none⟩) l) (k : Nat) : Bts w (some ⟨b, o + k, none⟩) (l.drop k) := by
  refine ⟨fun i => by rw [getD_drop]; exact h.1 _, ?_⟩
  by_cases hk : k < l.length
  · rcases h.2 with rfl | ⟨b', o', he, hc⟩
    · simp at hk
    · refine .inr ⟨b, o + k, rfl, fun i hi => ?_⟩
      simp at he
      obtain ⟨rfl, rfl⟩ := he
      rw [getD_drop, Nat.add_assoc]
      exact hc (k + i) (by simp at hi; omega)
  · exact .inl (List.drop_eq_nil_of_le (by omega))
theorem decode_at (b o k : Nat) (l : List Int) (len cap : Nat) (w : World) (hl : l.length - k = len) (hc : l.length ≤ cap) (hm : cap ≤ maxLen) (hb : Bts w (some ⟨b, o, none⟩) l) :
    Calls Tryd.prog 78 #[.slice (some ⟨b, o + k, none⟩) len (cap - k)] w fun e w' => e = .returned (.tuple #[.int .i32 (dec (l.drop k)).1, .int .i64 (dec (l.drop k)).2]) ∧ w' = w := by
  have := decode_any _ _ (cap - k) w (by simp; omega) (by omega) (hb.drop k)
  rw [List.length_drop, hl] at this
  exact this
theorem decode_at0 (b k : Nat) (l : List Int) (len cap : Nat) (w : World) (hl : l.length - k = len) (hc : l.length ≤ cap) (hm : cap ≤ maxLen) (hb : Bts w (some ⟨b, 0, none⟩) l) :
    Calls Tryd.prog 78 #[.slice (some ⟨b, k, none⟩) len (cap - k)] w fun e w' => e = .returned (.tuple #[.int .i32 (dec (l.drop k)).1, .int .i64 (dec (l.drop k)).2]) ∧ w' = w := by
  have := decode_at b 0 k l len cap w hl hc hm hb
  rw [Nat.zero_add] at this
  exact this
end Go.Proofs.YtjcgnbmpnaapdaaDoor
