/- What is asked of the program; the statements' own look. -/
import Derived.Test.YtakemkhgaicckaaDoorB0
namespace Go.Proofs.YtakemkhgaicckaaDoor
open Go.RowKit
set_option linter.unusedVariables false

/-- What the program's Parse gives. -/
def PrP (l : List Int) (w : World) (e : Ending) (w' : World) : Prop :=
  Below w.heap.size w w' ∧ match parS l with
  | .error x => ∃ v0, e = .returned (.tuple #[nmV false v0 0, .int .i64 x]) ∧ BtR w' v0 []
  | .ok n => ∃ rv, e = .returned (.tuple #[nmV n.1 rv n.2.2, .int .i64 0]) ∧ BtR w' rv n.2.1
/-- What the program's Add gives. -/
def ArP (a b : Nm) (w : World) (e : Ending) (w' : World) : Prop :=
  Below w.heap.size w w' ∧ match adS a b with
  | .error x => ∃ v0, e = .returned (.tuple #[nmV false v0 0, .int .i64 x]) ∧ BtR w' v0 []
  | .ok n => ∃ rv, e = .returned (.tuple #[nmV n.1 rv n.2.2, .int .i64 0]) ∧ BtR w' rv n.2.1
/-- The program's contracts. -/
structure Prg : Prop where
  parse : ∀ (s : ByteArray) (w : World), s.size ≤ maxLen → Calls Tryd.prog 11 #[.string s] w (PrP (bl s) w)
  right : ∀ {w : World} {v : Value} {l : List Int}, BtR w v l → ∀ (neg : Bool) (sc : Int), -9223372036854775808 ≤ sc → sc ≤ 9223372036854775807 → Calls Tryd.prog 18 #[nmV neg v sc] w fun e w' => e = .returned (.bool (rgS neg l sc)) ∧ Below w.heap.size w w'
  text : ∀ {w : World} {v : Value} {n : Nm}, NmR w v n → Calls Tryd.prog 13 #[nmV n.1 v n.2.2] w fun e w' => e = .returned (.string (sb (txS n))) ∧ Below w.heap.size w w'
  total : ∀ {w : World} {v : Value} {n : Nm}, NmR w v n → Calls Tryd.prog 14 #[nmV n.1 v n.2.2] w fun e w' => e = .returned (.int .i64 (totS n.2.1 n.2.2)) ∧ Below w.heap.size w w'
  frac : ∀ {w : World} {v : Value} {n : Nm}, NmR w v n → Calls Tryd.prog 15 #[nmV n.1 v n.2.2] w fun e w' => e = .returned (.int .i64 n.2.2) ∧ Below w.heap.size w w'
  whole : ∀ {w : World} {v : Value} {n : Nm}, NmR w v n → Calls Tryd.prog 8 #[nmV n.1 v n.2.2] w fun e w' => e = .returned (.bool (decide (n.2.2 = 0))) ∧ Below w.heap.size w w'
  cmp : ∀ {w : World} {v v' : Value} {a b : Nm}, NmR w v a → NmR w v' b → Calls Tryd.prog 9 #[nmV a.1 v a.2.2, nmV b.1 v' b.2.2] w fun e w' => e = .returned (.int .i64 (cmpS a b)) ∧ Below w.heap.size w w'
  add : ∀ {w : World} {v v' : Value} {a b : Nm}, NmR w v a → NmR w v' b → Calls Tryd.prog 10 #[nmV a.1 v a.2.2, nmV b.1 v' b.2.2] w (ArP a b w)
  neg : ∀ {w : World} {v : Value} {n : Nm}, NmR w v n → Calls Tryd.prog 12 #[nmV n.1 v n.2.2] w fun e w' => ∃ rv, e = .returned (nmV (ngS n).1 rv (ngS n).2.2) ∧ BtR w' rv (ngS n).2.1 ∧ Below w.heap.size w w'
/-- A number's box stands. -/
theorem boxK {w : World} {T : Nat} {x y z : Value} {t : TypeId} (h : w.heap[T]? = some (.cells #[x, y, z] t (0, 0))) : ∀ W, Below w.heap.size w W → W.cell? ⟨T, 0, none⟩ = some x ∧ W.cell? ⟨T, 1, none⟩ = some y ∧ W.cell? ⟨T, 2, none⟩ = some z := fun W hb => bl3 ((hb.block _ (lt_of h)).trans h)
def kA : List Int := [45, 48, 48, 55, 46, 53, 48]
def kB : List Int := [43, 46, 53]
theorem parA : parS kA = .ok (true, [7, 5], 1) := by rfl
theorem parB : parS kB = .ok (false, [0, 5], 1) := by rfl
theorem cnA : CN (true, [7, 5], 1) := (par_ok parA).1
theorem cnB : CN (false, [0, 5], 1) := (par_ok parB).1
theorem smAB : smS (true, [7, 5], 1) (false, [0, 5], 1) = (true, [7], 0) := by rfl
theorem adAB : adS (true, [7, 5], 1) (false, [0, 5], 1) = .ok (true, [7], 0) := by rfl
theorem cnC : CN (true, [7], 0) := by have := (sm_ok cnA cnB).1; rwa [smAB] at this
theorem txA : sb (txS (true, [7, 5], 1)) = ⟨#[45, 55, 46, 53]⟩ := by rfl
theorem txB : sb (txS (false, [0, 5], 1)) = ⟨#[48, 46, 53]⟩ := by rfl
theorem txC : sb (txS (true, [7], 0)) = ⟨#[45, 55]⟩ := by rfl
theorem cmAB : cmpS (true, [7, 5], 1) (false, [0, 5], 1) = -1 := by rfl
theorem toB : totS [0, 5] 1 = 1 := by rfl
theorem ngA : ngS (true, [7, 5], 1) = (false, [7, 5], 1) := by rfl
theorem txN : sb (txS (false, [7, 5], 1)) = ⟨#[55, 46, 53]⟩ := by rfl
theorem cnN : CN (false, [7, 5], 1) := by have := (ng_ok cnA).1; rwa [ngA] at this
end Go.Proofs.YtakemkhgaicckaaDoor
