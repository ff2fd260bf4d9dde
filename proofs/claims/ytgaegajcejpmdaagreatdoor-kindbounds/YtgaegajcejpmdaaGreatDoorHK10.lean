/- The program: read, of decimal's kinds. -/
import Derived.Test.YtgaegajcejpmdaaGreatDoorHK9
import Derived.Laws.Tables
import Derived.Laws.CopyRow
import Derived.Deep.MidRow
namespace Go.Proofs.YtgaegajcejpmdaaGreatDoor
open Go.RowKit
set_option linter.unusedVariables false
set_option linter.unusedSimpArgs false

/-- What read leaves, of decimal's kinds. -/
def RnP (k : Int) (s : ByteArray) (w : World) (e : Ending) (w' : World) : Prop :=
  Below w.heap.size w w' ∧ match Dc.parS (Dc.bl s) with
  | .ok n => ∃ rv, e = .returned (.tuple #[vlV 10 ⟨#[]⟩ n.1 rv n.2.2 z0 sp0, .bool (cntB k (Dc.bl s) n)]) ∧ Dc.BtR w' rv n.2.1
  | .error _ => ∃ p t ng sl sc m q, e = .returned (.tuple #[vlV p t ng sl sc m q, .bool false]) ∧ Dc.BtR w' sl []
theorem pr10 {k : Int} (h0 : 10 ≤ k) (h1 : k ≤ 23) : prS k = 10 := by
  obtain ⟨n, rfl⟩ : ∃ n : Nat, k = n := ⟨k.toNat, by omega⟩
  rcases (by omega : n = 10 ∨ n = 11 ∨ n = 12 ∨ n = 13 ∨ n = 14 ∨ n = 15 ∨ n = 16 ∨ n = 17 ∨ n = 18 ∨ n = 19 ∨ n = 20 ∨ n = 21 ∨ n = 22 ∨ n = 23) with rfl | rfl | rfl | rfl | rfl | rfl | rfl | rfl | rfl | rfl | rfl | rfl | rfl | rfl <;> rfl
theorem prim10 (k : Int) (h0 : 10 ≤ k) (h1 : k ≤ 23) (w : World) : Calls Tryz.prog 15 #[.int .i64 k] w fun e w' => e = .returned (.int .i64 10) ∧ w' = w := by
  have := prim_k k w
  rwa [pr10 h0 h1] at this
theorem rng0 {W : World} {X : Nat} {t : TypeId} {cs : List Value} (h : W.heap[X]? = some (.cells cs.toArray t (0, 0))) : W.rangeAt X 0 cs := fun j v hv => by
  rw [row_cell h, Nat.zero_add]
  simpa using hv
theorem rng2 {W : World} {X : Nat} {t : TypeId} {a b c d e : Value} {cs : List Value} (h : W.heap[X]? = some (.cells (a :: b :: c :: d :: e :: cs).toArray t (0, 0))) : W.rangeAt X 2 [c, d, e] := fun j v hv => by
  rw [row_cell h]
  match j with
  | 0 => simpa using hv
  | 1 => simpa using hv
  | 2 => simpa using hv
  | j + 3 => simp at hv
/-- What a function leaves whose results are a value's box and a number or truth. -/
theorem res2 {W : World} {X : Nat} {cs : Array Value} {fn : Func} {p r : Tmp} {tmps : Array Value} (hf : fn.results = #[.cell p 40, .tmp r]) (hp : tmps.getD p undef = .pointer (some ⟨X, 0, none⟩)) (h : W.heap[X]? = some (.cells cs 40 (0, 0))) (hs : cs.size = 16) :
    (results fn tmps).run Tryz.prog W = .ok (.tuple #[.agg cs, tmps.getD r undef]) W := by
  have hl := run_loadVar_row (P := Tryz.prog) W X 40 40 cs (0, 0) _ h Tryz.underlying40 rfl (by rw [hs]; kernel_rfl)
  have hp' : tmps[p]?.getD undef = .pointer (some ⟨X, 0, none⟩) := by simpa using hp
  simp [results, hf, hp', asAddr, hl]
theorem btr_nil {w : World} {a : Option Addr} {cap : Nat} (h : cap ≤ maxLen) : Dc.BtR w (.slice a 0 cap) [] := ⟨a, cap, rfl, Nat.zero_le _, h, fun d hd => (by simp at hd), .inl rfl⟩
theorem par_err {l : List Int} {x : Int} (h : Dc.parS l = .error x) : x = 2 ∨ x = 3 := by
  unfold Dc.parS at h
  by_cases hl : 4096 < l.length
  · rw [if_pos hl] at h; right; exact (Except.error.inj h).symm
  · rw [if_neg hl] at h
    left
    cases hs : Dc.scS (Dc.sgS l).2 [] 0 false with
    | none => rw [hs] at h; exact (Except.error.inj h).symm
    | some r =>
      rw [hs] at h
      obtain ⟨b, s⟩ := r
      dsimp only at h
      by_cases hb : b = []
      · rw [if_pos hb] at h; exact (Except.error.inj h).symm
      · rw [if_neg hb] at h; cases h
end Go.Proofs.YtgaegajcejpmdaaGreatDoor
