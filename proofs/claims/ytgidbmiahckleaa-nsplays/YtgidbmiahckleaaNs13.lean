/- New, and what a scope tells; the statements' own look (known). -/
import Derived.Test.YtgidbmiahckleaaNs12
namespace Go.Proofs.Ytgidbmiahckleaa
open Go.RowKit
set_option linter.unusedVariables false

theorem new_s (w : World) : Calls Try.prog 9 #[] w fun e w' => e = .returned (.pointer (some ⟨w.heap.size, 0, none⟩)) ∧ w' = w.alloc (.cells #[.map none, .slice none 0 0] 81) := by
  go_enter Try.func9, Try.ntmps9
  go_wp2_with fail
  go_ret
  exact ⟨rfl, rfl⟩
theorem new_sc (w : World) : SC (fun k => k = w.heap.size) (w.alloc (.cells #[.map none, .slice none 0 0] 81)) w.heap.size [] [] := by
  refine ⟨fun k e => by rw [e]; simp, .map none, .slice none 0 0, [], nw_heap _ _, .inl ⟨rfl, rfl⟩, ⟨rfl, .inl ⟨rfl, rfl⟩⟩, .nil, fun v hv => by simp at hv, rfl, fun b e => by simp at e, fun k e => by simp [Value.ownBlock] at e⟩
theorem resolve_sc {O : Nat → Prop} {w : World} {P : Nat} {l : Bs} {hs : List Hs} (h : SC O w P l hs) (s : ByteArray) (hz : s.size ≤ maxLen) :
    Calls Try.prog 16 #[.pointer (some ⟨P, 0, none⟩), .string s] w fun e w' => e = .returned (.tuple #[.agg #[.string (resS l s).1, .string (resS l s).2.1], .int .i64 (resS l s).2.2]) ∧ Below w.heap.size w w' := by
  obtain ⟨nv, hv, xs, h1, h2, _⟩ := h.ex
  exact resolve_s h1 h2 s hz
theorem space_sc {O : Nat → Prop} {w : World} {P : Nat} {l : Bs} {hs : List Hs} (h : SC O w P l hs) (s : ByteArray) :
    Calls Try.prog 18 #[.pointer (some ⟨P, 0, none⟩), .string s] w fun e w' => e = .returned (.tuple #[.string (spaceS l s).1, .bool (spaceS l s).2]) ∧ Below w.heap.size w w' := by
  obtain ⟨nv, hv, xs, h1, h2, _⟩ := h.ex
  exact space_s h1 h2 s
theorem depth_sc {O : Nat → Prop} {w : World} {P : Nat} {l : Bs} {hs : List Hs} (h : SC O w P l hs) :
    Calls Try.prog 20 #[.pointer (some ⟨P, 0, none⟩)] w fun e w' => e = .returned (.int .i64 hs.length) ∧ w' = w := by
  obtain ⟨nv, hv, xs, h1, h2, h3, _⟩ := h.ex
  obtain ⟨a, c, rfl⟩ := row_form h3
  exact depth_s h1
theorem close_nil {O : Nat → Prop} {w : World} {P : Nat} {l : Bs} (h : SC O w P l []) :
    Calls Try.prog 10 #[.pointer (some ⟨P, 0, none⟩)] w fun e w' => e = .returned (.bool false) ∧ w' = w := by
  obtain ⟨nv, hv, xs, h1, h2, h3, _⟩ := h.ex
  obtain ⟨a, c, rfl⟩ := row_form h3
  exact close_none h1
/-- What Open answers, where it fails, and where not. -/
theorem open_err {O : Nat → Prop} {w : World} {P : Nat} {l : Bs} {hs : List Hs} (hS : SC O w P l hs) (k pl : Int) (nm tx : ByteArray) (hz : nm.size ≤ maxLen) {a : Option Addr} {cap : Nat} {ats : Ats} (hA : AtO w a ats) (hcap : a = none → cap = 0) (hg : ats ≠ [] → ∀ g off, a = some ⟨g, off, none⟩ → ¬ O g) (hn : hs.length ≤ 1000000) (hcnt : ats.length ≤ 1000000) {x : Int × Int} (hx : opS l nm pl ats = .error x) :
    Calls Try.prog 12 #[.pointer (some ⟨P, 0, none⟩), evV k pl nm tx a ats.length cap] w fun e w' => e = .returned (.tuple #[zT, .int .i64 x.1, .int .i64 x.2]) ∧ Fro O w w' ∧ ∃ O' l', (∀ k, O' k → O k ∨ w.heap.size ≤ k) ∧ Ba l ats l' ∧ SC O' w' P l' hs := by
  refine Calls.mono (open_s hS k pl nm tx hz hA hcap hg hn hcnt) ?_
  rintro e w' ⟨hf, O', hO, hm⟩
  rw [hx] at hm
  obtain ⟨rfl, l', h1, h2⟩ := hm
  exact ⟨rfl, hf, O', l', hO, h1, h2⟩
theorem open_ok {O : Nat → Prop} {w : World} {P : Nat} {l : Bs} {hs : List Hs} (hS : SC O w P l hs) (k pl : Int) (nm tx : ByteArray) (hz : nm.size ≤ maxLen) {a : Option Addr} {cap : Nat} {ats : Ats} (hA : AtO w a ats) (hcap : a = none → cap = 0) (hg : ats ≠ [] → ∀ g off, a = some ⟨g, off, none⟩ → ¬ O g) (hn : hs.length ≤ 1000000) (hcnt : ats.length ≤ 1000000) {x : (ByteArray × ByteArray) × List Out} (hx : opS l nm pl ats = .ok x) {b : Bs × Hs} (hb : binds l (ps ats) = b) :
    Calls Try.prog 12 #[.pointer (some ⟨P, 0, none⟩), evV k pl nm tx a ats.length cap] w fun e w' => ∃ sv, e = .returned (.tuple #[.agg #[.string x.1.1, .string x.1.2, sv, .int .i64 pl], .int .i64 0, .int .i64 0]) ∧ Fro O w w' ∧ ∃ O' : Nat → Prop, (∀ k, O' k → O k ∨ w.heap.size ≤ k) ∧ SC O' w' P b.1 (hs ++ [b.2]) ∧ w'.ownsRow w.heap.size 74 4 sv x.2.length (x.2.flatMap ac) ∧ ∀ k, sv.ownBlock = some k → ¬ O' k := by
  refine Calls.mono (open_s hS k pl nm tx hz hA hcap hg hn hcnt) ?_
  rintro e w' ⟨hf, O', hO, hm⟩
  rw [hx] at hm
  obtain ⟨sv, rfl, h1, h2, h3⟩ := hm
  rw [hb] at h1
  exact ⟨sv, rfl, hf, O', hO, h1, h2, h3⟩
theorem AtR.of_block {w : World} {g : Nat} {cs : Array Value} {ats : Ats} (h : w.heap[g]? = some (.cells cs 72 (0, 0))) (hc : cs.toList = ats.flatMap fun a => [.string a.1, .string a.2.1, .int .i64 a.2.2]) (hl : ats.length ≤ maxLen) (hs : ∀ a ∈ ats, a.1.size ≤ maxLen) : AtR w g 0 ats := by
  refine ⟨lt_of h, hl, fun i hi => ?_⟩
  have hget : ∀ (l : Ats) (i c : Nat) (hi : i < l.length), c < 3 → (l.flatMap fun a => [Value.string a.1, .string a.2.1, .int .i64 a.2.2])[3 * i + c]? = ([Value.string (l[i]'hi).1, .string (l[i]'hi).2.1, .int .i64 (l[i]'hi).2.2])[c]? := by
    intro l
    induction l with
    | nil => intro i c hi; simp at hi
    | cons a l ih =>
      intro i c hi hc
      rw [List.flatMap_cons]
      cases i with
      | zero =>
        rw [List.getElem?_append_left (by simp; omega)]
        simp
      | succ i =>
        rw [List.getElem?_append_right (by simp; omega)]
        have e : 3 * (i + 1) + c - 3 = 3 * i + c := by omega
        simp only [List.length_cons, List.length_nil]
        rw [e, ih i c (by simpa using hi) hc]
        simp
  have hcell : ∀ c, c < 3 → w.cell? ⟨g, 0 + i * 3 + c, none⟩ = ([Value.string (ats[i]'hi).1, .string (ats[i]'hi).2.1, .int .i64 (ats[i]'hi).2.2])[c]? := by
    intro c hc3
    rw [← hget ats i c hi hc3, ← hc]
    have e : 0 + i * 3 + c = 3 * i + c := by omega
    rw [e]
    simp [World.cell?, h]
  exact ⟨hcell 0 (by omega), hcell 1 (by omega), hcell 2 (by omega), hs _ (List.getElem_mem hi)⟩
end Go.Proofs.Ytgidbmiahckleaa
