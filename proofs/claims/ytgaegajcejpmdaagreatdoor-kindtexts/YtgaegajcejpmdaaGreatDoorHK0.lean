/- The kinds as plain tables: names, bases, topmost kinds, blanks; what is derived from what; a kind by its name. -/
import Derived.WalkKit
namespace Go.Proofs.YtgaegajcejpmdaaGreatDoor
set_option linter.unusedVariables false

def nmL : List ByteArray := [⟨#[]⟩, ⟨#[115, 116, 114, 105, 110, 103]⟩, ⟨#[110, 111, 114, 109, 97, 108, 105, 122, 101, 100, 83, 116, 114, 105, 110, 103]⟩, ⟨#[116, 111, 107, 101, 110]⟩, ⟨#[78, 77, 84, 79, 75, 69, 78]⟩, ⟨#[78, 97, 109, 101]⟩, ⟨#[78, 67, 78, 97, 109, 101]⟩, ⟨#[73, 68]⟩, ⟨#[73, 68, 82, 69, 70]⟩, ⟨#[98, 111, 111, 108, 101, 97, 110]⟩, ⟨#[100, 101, 99, 105, 109, 97, 108]⟩, ⟨#[105, 110, 116, 101, 103, 101, 114]⟩, ⟨#[110, 111, 110, 80, 111, 115, 105, 116, 105, 118, 101, 73, 110, 116, 101, 103, 101, 114]⟩, ⟨#[110, 101, 103, 97, 116, 105, 118, 101, 73, 110, 116, 101, 103, 101, 114]⟩, ⟨#[110, 111, 110, 78, 101, 103, 97, 116, 105, 118, 101, 73, 110, 116, 101, 103, 101, 114]⟩, ⟨#[112, 111, 115, 105, 116, 105, 118, 101, 73, 110, 116, 101, 103, 101, 114]⟩, ⟨#[108, 111, 110, 103]⟩, ⟨#[105, 110, 116]⟩, ⟨#[115, 104, 111, 114, 116]⟩, ⟨#[98, 121, 116, 101]⟩, ⟨#[117, 110, 115, 105, 103, 110, 101, 100, 76, 111, 110, 103]⟩, ⟨#[117, 110, 115, 105, 103, 110, 101, 100, 73, 110, 116]⟩, ⟨#[117, 110, 115, 105, 103, 110, 101, 100, 83, 104, 111, 114, 116]⟩, ⟨#[117, 110, 115, 105, 103, 110, 101, 100, 66, 121, 116, 101]⟩, ⟨#[100, 97, 116, 101, 84, 105, 109, 101]⟩, ⟨#[100, 97, 116, 101]⟩, ⟨#[116, 105, 109, 101]⟩, ⟨#[103, 89, 101, 97, 114, 77, 111, 110, 116, 104]⟩, ⟨#[103, 89, 101, 97, 114]⟩, ⟨#[103, 77, 111, 110, 116, 104, 68, 97, 121]⟩, ⟨#[103, 68, 97, 121]⟩, ⟨#[103, 77, 111, 110, 116, 104]⟩, ⟨#[100, 117, 114, 97, 116, 105, 111, 110]⟩]
def odL : List ByteArray := [⟨#[102, 108, 111, 97, 116]⟩, ⟨#[100, 111, 117, 98, 108, 101]⟩, ⟨#[104, 101, 120, 66, 105, 110, 97, 114, 121]⟩, ⟨#[98, 97, 115, 101, 54, 52, 66, 105, 110, 97, 114, 121]⟩, ⟨#[97, 110, 121, 85, 82, 73]⟩, ⟨#[81, 78, 97, 109, 101]⟩, ⟨#[78, 79, 84, 65, 84, 73, 79, 78]⟩, ⟨#[108, 97, 110, 103, 117, 97, 103, 101]⟩, ⟨#[78, 77, 84, 79, 75, 69, 78, 83]⟩, ⟨#[73, 68, 82, 69, 70, 83]⟩, ⟨#[69, 78, 84, 73, 84, 89]⟩, ⟨#[69, 78, 84, 73, 84, 73, 69, 83]⟩]
def bsL : List Int := [0, 0, 1, 2, 3, 3, 5, 6, 6, 0, 0, 10, 11, 12, 11, 14, 11, 16, 17, 18, 14, 20, 21, 22, 0, 0, 0, 0, 0, 0, 0, 0, 0]
def prL : List Int := [0, 1, 1, 1, 1, 1, 1, 1, 1, 9, 10, 10, 10, 10, 10, 10, 10, 10, 10, 10, 10, 10, 10, 10, 24, 25, 26, 27, 28, 29, 30, 31, 32]
/-- There is such a kind. -/
def isK (k : Int) : Bool := decide (1 ≤ k ∧ k ≤ 32)
def nmS (k : Int) : ByteArray := if isK k = true then nmL.getD k.toNat ⟨#[]⟩ else ⟨#[]⟩
def bsS (k : Int) : Int := if isK k = true then bsL.getD k.toNat 0 else 0
def prS (k : Int) : Int := if isK k = true then prL.getD k.toNat 0 else 0
def whS (k : Int) : Int := if isK k = true then (if k = 1 then 1 else if k = 2 then 2 else 3) else 0
def dvF : Nat → Int → Int → Bool
  | 0, _, _ => false
  | n + 1, k, fr => if isK k = true then (if k = fr then true else dvF n (bsS k) fr) else false
def dvS (k fr : Int) : Bool := dvF 40 k fr
def odS (s : ByteArray) : Int := if (odL.any fun x => s.toList == x.toList) = true then 6 else 4
def fdF (s : ByteArray) : Nat → Nat → Int × Int
  | 0, _ => (0, odS s)
  | n + 1, i => if ((nmL.getD i ⟨#[]⟩).toList == s.toList) = true then ((i : Int), 0) else fdF s n (i + 1)
def fdS (s : ByteArray) : Int × Int := fdF s 32 1

theorem isK_iff {k : Int} : isK k = true ↔ 1 ≤ k ∧ k ≤ 32 := by simp [isK]
theorem isK_nat {k : Int} (h : isK k = true) : ∃ n : Nat, k = n ∧ 1 ≤ n ∧ n ≤ 32 := by
  have := isK_iff.1 h
  exact ⟨k.toNat, by omega, by omega, by omega⟩
theorem bs_all : ∀ n : Fin 33, 0 ≤ bsS (n.val : Int) ∧ (bsS (n.val : Int) < n.val ∨ n.val = 0) ∧ bsS (n.val : Int) ≤ 32 ∧ (if bsS (n.val : Int) = 0 then prS (n.val : Int) = n.val else prS (bsS (n.val : Int)) = prS (n.val : Int)) := by decide +kernel
theorem bs_bd (k : Int) : 0 ≤ bsS k ∧ bsS k ≤ 32 ∧ (isK k = true → bsS k < k) := by
  by_cases h : isK k = true
  · obtain ⟨n, rfl, h1, h2⟩ := isK_nat h
    have := bs_all ⟨n, by omega⟩
    simp only at this
    refine ⟨this.1, this.2.2.1, fun _ => ?_⟩
    rcases this.2.1 with q | q
    · exact q
    · omega
  · unfold bsS
    rw [if_neg h]
    exact ⟨by omega, by omega, fun q => absurd q h⟩
theorem pr_top {k : Int} (h : isK k = true) (hb : bsS k = 0) : prS k = k := by
  obtain ⟨n, rfl, h1, h2⟩ := isK_nat h
  have := bs_all ⟨n, by omega⟩
  simp only [hb, if_true] at this
  exact this.2.2.2
theorem pr_up {k : Int} (h : isK k = true) (hb : bsS k ≠ 0) : prS (bsS k) = prS k ∧ isK (bsS k) = true := by
  obtain ⟨n, rfl, h1, h2⟩ := isK_nat h
  have := bs_all ⟨n, by omega⟩
  simp only [hb, if_false] at this
  exact ⟨this.2.2.2, isK_iff.2 (by omega)⟩
theorem isK_nb {k : Int} (h : isK k = false) : bsS k = 0 := by unfold bsS; rw [if_neg (by simp [h])]
theorem pr_no {k : Int} (h : isK k = false) : prS k = 0 := by unfold prS; rw [if_neg (by simp [h])]
end Go.Proofs.YtgaegajcejpmdaaGreatDoor
