/- Joined: HChSpec2, HChRight. -/
import Derived.Test.YtgaegajcejpmdaaGreatDoorHJ35
import Derived.Test.YtgaegajcejpmdaaGreatDoorHChRef
namespace Go.Proofs.YtgaegajcejpmdaaGreatDoor.Ch

def rgt : Nat → List Int → Nat × Bool
  | 0, _ => (0, true)
  | n + 1, l => if l.length = 0 then (0, true) else if (dec l).2 = 0 ∨ isChar (dec l).1 = false then (0, false)
      else ((dec l).2.toNat + (rgt n (l.drop (dec l).2.toNat)).1, (rgt n (l.drop (dec l).2.toNat)).2)
def cnt : Nat → List Int → Nat
  | 0, _ => 0
  | n + 1, l => if l.length = 0 then 0 else 1 + cnt n (l.drop (max (dec l).2 1).toNat)
def tok : Nat → List Int → Bool
  | 0, _ => true
  | n + 1, l => if l.length = 0 then true else if (dec l).2 = 0 ∨ isPart (dec l).1 = false then false else tok n (l.drop (dec l).2.toNat)

theorem rgt_end (n : Nat) (l : List Int) (h : l.length = 0) : rgt n l = (0, true) := by
  cases n <;> simp [rgt, h]
theorem rgt_bad (n : Nat) (l : List Int) (h0 : ¬ l.length = 0) (h : (dec l).2 = 0 ∨ isChar (dec l).1 = false) : rgt (n + 1) l = (0, false) := by
  simp only [rgt]; rw [if_neg h0, if_pos h]
theorem rgt_step (n : Nat) (l : List Int) (h0 : ¬ l.length = 0) (h : ¬ ((dec l).2 = 0 ∨ isChar (dec l).1 = false)) :
    rgt (n + 1) l = ((dec l).2.toNat + (rgt n (l.drop (dec l).2.toNat)).1, (rgt n (l.drop (dec l).2.toNat)).2) := by
  simp only [rgt]; rw [if_neg h0, if_neg h]
theorem cnt_end (n : Nat) (l : List Int) (h : l.length = 0) : cnt n l = 0 := by
  cases n <;> simp [cnt, h]
theorem cnt_step (n : Nat) (l : List Int) (h0 : ¬ l.length = 0) : cnt (n + 1) l = 1 + cnt n (l.drop (max (dec l).2 1).toNat) := by
  simp only [cnt]; rw [if_neg h0]
theorem tok_end (n : Nat) (l : List Int) (h : l.length = 0) : tok n l = true := by
  cases n <;> simp [tok, h]
theorem tok_bad (n : Nat) (l : List Int) (h0 : ¬ l.length = 0) (h : (dec l).2 = 0 ∨ isPart (dec l).1 = false) : tok (n + 1) l = false := by
  simp only [tok]; rw [if_neg h0, if_pos h]
theorem tok_step (n : Nat) (l : List Int) (h0 : ¬ l.length = 0) (h : ¬ ((dec l).2 = 0 ∨ isPart (dec l).1 = false)) : tok (n + 1) l = tok n (l.drop (dec l).2.toNat) := by
  simp only [tok]; rw [if_neg h0, if_neg h]
end Go.Proofs.YtgaegajcejpmdaaGreatDoor.Ch
namespace Go.Proofs.YtgaegajcejpmdaaGreatDoor.Ch
open Go.RowKit
set_option linter.unusedVariables false

theorem getD_drop (l : List Int) (k i : Nat) : (l.drop k).getD i 0 = l.getD (k + i) 0 := by
  simp [List.getD_eq_getElem?_getD, List.getElem?_drop]
theorem Bts.drop {w : World} {b o : Nat} {l : List Int} (h : Bts w (some ⟨b, o, none⟩) l) (k : Nat) : Bts w (some ⟨b, o + k, none⟩) (l.drop k) := by
  refine ⟨fun i => by rw [getD_drop]; exact h.1 _, ?_⟩
  by_cases hk : k < l.length
  · rcases h.2 with rfl | ⟨b', o', he, hc⟩
    · simp at hk
    · refine .inr ⟨b, o + k, rfl, fun i hi => ?_⟩
      simp at he
      obtain ⟨rfl, rfl⟩ := he
      rw [getD_drop, Nat.add_assoc]
      exact hc (k + i) (by simp at hi; omega)
  · exact .inl (List.drop_eq_nil_of_le (by omega))
theorem decode_at (b o k : Nat) (l : List Int) (len cap : Nat) (w : World) (hl : l.length - k = len) (hc : l.length ≤ cap) (hm : cap ≤ maxLen) (hb : Bts w (some ⟨b, o, none⟩) l) :
    Calls Tryz.prog 144 #[.slice (some ⟨b, o + k, none⟩) len (cap - k)] w fun e w' => e = .returned (.tuple #[.int .i32 (dec (l.drop k)).1, .int .i64 (dec (l.drop k)).2]) ∧ w' = w := by
  have := decode_any _ _ (cap - k) w (by simp; omega) (by omega) (hb.drop k)
  rw [List.length_drop, hl] at this
  exact this
theorem rdecode_at (b o k : Nat) (l : List Int) (len cap : Nat) (w : World) (hl : l.length - k = len) (hc : l.length ≤ cap) (hm : cap ≤ maxLen) (hb : Bts w (some ⟨b, o, none⟩) l) :
    Calls Tryz.prog 166 #[.slice (some ⟨b, o + k, none⟩) len (cap - k)] w fun e w' => e = .returned (.tuple #[.int .i64 (dec (l.drop k)).1, .int .i64 (dec (l.drop k)).2]) ∧ w' = w := by
  have := rdecode_any _ _ (cap - k) w (by simp; omega) (by omega) (hb.drop k)
  rw [List.length_drop, hl] at this
  exact this

theorem ret_ib {a b : Int} {p q : Bool} (h : a = b) (g : p = q) : Ending.returned (.tuple #[.int .i64 a, .bool p]) = .returned (.tuple #[.int .i64 b, .bool q]) := by rw [h, g]

end Go.Proofs.YtgaegajcejpmdaaGreatDoor.Ch
