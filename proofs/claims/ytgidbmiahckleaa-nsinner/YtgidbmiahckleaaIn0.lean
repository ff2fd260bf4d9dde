/- Defaults within one another: what is bound, plain; Open and Close. -/
import Derived.Test.YtgidbmiahckleaaNs14
import Derived.Test.YtgidbmiahckleaaNs15
namespace Go.Proofs.Ytgidbmiahckleaa
open Go.RowKit
set_option linter.unusedVariables false
set_option linter.unusedSimpArgs false
set_option linter.unnecessarySimpa false

abbrev e0 : ByteArray := ⟨#[]⟩
/-- What is bound, the innermost default first. -/
def lS : List ByteArray → Bs
  | [] => []
  | s :: _ => [(e0, s)]
def hS : List ByteArray → List Hs
  | [] => []
  | s :: r => hS r ++ [[(e0, r.head?)]]
theorem hS_len : ∀ r, (hS r).length = r.length
  | [] => rfl
  | s :: r => by simp [hS, hS_len r]
theorem lS_len (r : List ByteArray) : (lS r).length ≤ 1000000 := by cases r <;> simp [lS]
theorem bse (s : ByteArray) : (s == s) = true := (Go.MapKept.bytes_beq s s).2 rfl
theorem bdf : bindS ⟨#[120, 109, 108, 110, 115]⟩ = (e0, true) := by kernel_rfl
theorem e0x : e0 ≠ xmlB := by decide
theorem spc_lS (r : List ByteArray) : spc (lS r) e0 = r.head? := by
  cases r with
  | nil => rfl
  | cons s r => simp [lS, spc, List.find?_cons, bse]
theorem setB_lS (r : List ByteArray) (s : ByteArray) : setB (lS r) e0 s = [(e0, s)] := by
  cases r with
  | nil => rfl
  | cons t r => simp [lS, setB, bse]
theorem b_in (r : List ByteArray) (s : ByteArray) : binds (lS r) (ps [(⟨#[120, 109, 108, 110, 115]⟩, s, 0)]) = (lS (s :: r), [(e0, r.head?)]) := by
  unfold binds ps
  simp [bstep, bdf, has, e0x, spc_lS, setB_lS]
  rfl
theorem back_in (r : List ByteArray) (s : ByteArray) : back (lS (s :: r)) [(e0, r.head?)] = lS r := by
  cases r with
  | nil => simp [back, backB, lS, unB, bse]
  | cons t r => simp [back, backB, lS, setB, bse]
theorem space_in (r : List ByteArray) : spaceS (lS r) e0 = ((r.head?).getD e0, true) := by
  unfold spaceS
  rw [if_neg e0x, spc_lS]
  cases r with
  | nil => simp
  | cons s r => rfl
theorem elt_in (r : List ByteArray) (s : ByteArray) : eltS (lS (s :: r)) ⟨#[97]⟩ = (s, ⟨#[97]⟩, 0) := by
  have h1 : hpB ⟨#[97]⟩ = false := by kernel_rfl
  have h2 : qn ⟨#[97]⟩ = (e0, ⟨#[97]⟩, true) := by kernel_rfl
  unfold eltS resS
  rw [h1, h2]
  simp [space_in]
theorem may_in {s : ByteArray} (v1 : ¬ s.toList = XML_L) (v2 : ¬ s.toList = XNS_L) : mayS ⟨#[120, 109, 108, 110, 115]⟩ s = true := by
  unfold mayS mayC
  have f : (⟨#[120, 109, 108, 110, 115]⟩ : ByteArray).toList = xnL ∧ e0.toList ≠ xnL ∧ e0.toList ≠ xmL := by decide +kernel
  obtain ⟨e1', h2, h3⟩ := f
  rw [bdf]
  have e1 : ((⟨#[120, 109, 108, 110, 115]⟩ : ByteArray).toList == xnL) = true := by rw [e1']; rfl
  have e2 : (e0.toList == xnL) = false := by simpa using h2
  have e3 : (e0.toList == xmL) = false := by simpa using h3
  have e4 : (s.toList == XML_L) = false := by simpa using v1
  have e5 : (s.toList == XNS_L) = false := by simpa using v2
  simp only [e1, e2, e3, e4, e5]
  rfl
theorem op_in (r : List ByteArray) {s : ByteArray} (v1 : ¬ s.toList = XML_L) (v2 : ¬ s.toList = XNS_L) : opS (lS r) ⟨#[97]⟩ 0 [(⟨#[120, 109, 108, 110, 115]⟩, s, 0)] = .ok ((s, ⟨#[97]⟩), []) := by
  unfold opS
  have hn : ([(⟨#[120, 109, 108, 110, 115]⟩, s, 0)] : Ats).find? bad = none := by
    simp [bad, may_in v1 v2]
  rw [hn, b_in]
  dsimp only
  unfold tagS
  rw [elt_in]
  simp [tgo, bdf]
theorem open_in {O : Nat → Prop} {w : World} {P g : Nat} {r : List ByteArray} {s : ByteArray} (hS' : SC O w P (lS r) (hS r)) (v1 : ¬ s.toList = XML_L) (v2 : ¬ s.toList = XNS_L) (hA : AtO w (some ⟨g, 0, none⟩) [(⟨#[120, 109, 108, 110, 115]⟩, s, 0)]) (hg : ¬ O g) (hr : r.length ≤ 1000000) :
    Calls Try.prog 12 #[.pointer (some ⟨P, 0, none⟩), evV 1 0 ⟨#[97]⟩ ⟨#[]⟩ (some ⟨g, 0, none⟩) 1 1] w fun e w' => ∃ a c, e = .returned (.tuple #[.agg #[.string s, .string ⟨#[97]⟩, .slice a 0 c, .int .i64 0], .int .i64 0, .int .i64 0]) ∧ Fro O w w' ∧ ∃ O' : Nat → Prop, (∀ k, O' k → O k ∨ w.heap.size ≤ k) ∧ SC O' w' P (lS (s :: r)) (hS (s :: r)) := by
  have hz : (⟨#[97]⟩ : ByteArray).size ≤ maxLen := by decide
  have h := open_ok (cap := 1) hS' 1 0 _ ⟨#[]⟩ hz hA (fun q => by simp at q) (fun g' off e => by simp at e; rw [← e.1]; exact hg) (by rw [hS_len]; exact hr) (by simp) (op_in r v1 v2) (b_in r s)
  refine Calls.mono h ?_
  rintro e w' ⟨sv, rfl, hf, O', h1, h2, h3, h4⟩
  obtain ⟨a, c, rfl⟩ := row_form h3
  exact ⟨a, c, rfl, hf, O', h1, h2⟩
theorem close_in {O : Nat → Prop} {w : World} {P : Nat} {r : List ByteArray} {s : ByteArray} (hS' : SC O w P (lS (s :: r)) (hS (s :: r))) (hr : r.length ≤ 1000000) :
    Calls Try.prog 10 #[.pointer (some ⟨P, 0, none⟩)] w fun e w' => e = .returned (.bool true) ∧ SC O w' P (lS r) (hS r) ∧ Fro O w w' := by
  refine Calls.mono (close_sc (hs := hS r) (h := [(e0, r.head?)]) hS' (fun _ => by simp [lS]) (by rw [hS_len]; exact hr)) ?_
  rintro e w' ⟨rfl, h', hp, h1, h2⟩
  have : h' = [(e0, r.head?)] := List.perm_singleton.1 hp
  rw [this, back_in] at h1
  exact ⟨rfl, h1, h2⟩
end Go.Proofs.Ytgidbmiahckleaa
