/- XmlMade: the text that is put together, and the events that come out. -/
import Derived.Test.YtjcgnbmpnaapdaaDoorEscp
import Derived.Deep.RegionHeld3
namespace Go.Proofs.YtjcgnbmpnaapdaaDoor
open Go.RowKit
set_option linter.unusedVariables false

theorem items_app : ∀ (l : List (Bs × Bs × Bs)) (t : Bs), M.items l t = M.items l [] ++ t
  | [], t => rfl
  | p :: l, t => by
    rw [M.items, M.items, items_app l t]
    simp [M.item]
theorem items_snoc : ∀ (l : List (Bs × Bs × Bs)) (p : Bs × Bs × Bs) (t : Bs), M.items (l ++ [p]) t = M.items l (M.item p.1 p.2.1 p.2.2 t)
  | [], p, t => rfl
  | q :: l, p, t => by rw [List.cons_append, M.items, M.items, items_snoc l p t]
/-- The parts of an element, by its number. -/
def prt (l : Bs) (vs ts : List ByteArray) (i : Nat) : Bs × Bs × Bs := (M.nmOf (l.getD i 0), bl (vs.getD i ⟨#[]⟩), bl (ts.getD i ⟨#[]⟩))
def prts (l : Bs) (vs ts : List ByteArray) : Nat → List (Bs × Bs × Bs)
  | 0 => []
  | i + 1 => prts l vs ts i ++ [prt l vs ts i]
theorem prts_len (l : Bs) (vs ts : List ByteArray) (n : Nat) : (prts l vs ts n).length = n := by
  induction n with
  | zero => rfl
  | succ n ih => rw [prts, List.length_append, ih]; rfl
theorem prts_get (l : Bs) (vs ts : List ByteArray) : ∀ (n i : Nat), i < n → (prts l vs ts n)[i]? = some (prt l vs ts i)
  | 0, i, h => by omega
  | n + 1, i, h => by
    rw [prts]
    by_cases hi : i < n
    · rw [List.getElem?_append_left (by rw [prts_len]; exact hi), prts_get l vs ts n i hi]
    · have : i = n := by omega
      subst this
      rw [List.getElem?_append_right (by rw [prts_len]; exact Nat.le_refl _), prts_len, Nat.sub_self]; rfl
/-- The text so far. -/
def txt (l : Bs) (vs ts : List ByteArray) (i : Nat) : Bs := M.items (prts l vs ts i) []
theorem item_eq (w : Bs) (v x : ByteArray) : M.item w (bl v) (bl x) [] = [60] ++ (w ++ ([32, 118, 61, 34] ++ (escS true (bl v) ++ ([34, 62] ++ (escS false (bl x) ++ ([60, 47] ++ (w ++ [32, 62]))))))) := by
  simp [M.item]
theorem txt_step (l : Bs) (vs ts : List ByteArray) (i : Nat) (c : Int) (v x : ByteArray) (hc : l.getD i 0 = c) (hv : vs.getD i ⟨#[]⟩ = v) (hx : ts.getD i ⟨#[]⟩ = x) :
    sb (txt l vs ts (i + 1)) = sb (txt l vs ts i) ++ ⟨#[60]⟩ ++ sb (M.nmOf c) ++ ⟨#[32, 118, 61, 34]⟩ ++ sb (escS true (bl v)) ++ ⟨#[34, 62]⟩ ++ sb (escS false (bl x)) ++ ⟨#[60, 47]⟩ ++ sb (M.nmOf c) ++ ⟨#[32, 62]⟩ := by
  unfold txt
  rw [prts, items_snoc, items_app]
  simp only [prt, hc, hv, hx]
  rw [item_eq, ← sb_append, ← sb_append, ← sb_append, ← sb_append, ← sb_append, ← sb_append, ← sb_append, ← sb_append]
  simp only [ByteArray.append_assoc]
  rfl
theorem txt_len (l : Bs) (vs ts : List ByteArray) : ∀ (n : Nat), (∀ i, i < n → (vs.getD i ⟨#[]⟩).size ≤ 100 ∧ (ts.getD i ⟨#[]⟩).size ≤ 100) → (txt l vs ts n).length ≤ 1300 * n
  | 0, h => by simp [txt, prts, M.items]
  | n + 1, h => by
    have ih := txt_len l vs ts n (fun i hi => h i (by omega))
    have hn := h n (by omega)
    have h1 := esc_len6 true (vs.getD n ⟨#[]⟩)
    have h2 := esc_len6 false (ts.getD n ⟨#[]⟩)
    unfold txt at *
    rw [prts, items_snoc, items_app, List.length_append]
    simp only [prt]
    rw [item_eq]
    simp only [M.nmOf, List.length_append, List.length_cons, List.length_nil]
    omega
theorem nm_bda (c : Int) : Bd (M.nmOf c) := by
  have hm0 : 0 ≤ c % 26 := Int.emod_nonneg c (by omega)
  have hm1 : c % 26 < 26 := Int.emod_lt_of_pos c (by omega)
  refine bd_mem fun x hx => ?_
  simp [M.nmOf] at hx
  omega
theorem txt_bd (l : Bs) (vs ts : List ByteArray) : ∀ (n : Nat), Bd (txt l vs ts n)
  | 0 => bd_mem (by simp [txt, prts, M.items])
  | n + 1 => by
    have ih := txt_bd l vs ts n
    unfold txt at *
    rw [prts, items_snoc, items_app]
    refine bd_append ih ?_
    simp only [prt]
    rw [item_eq]
    exact bd_append (bd_mem (by decide)) (bd_append (nm_bda _) (bd_append (bd_mem (by decide)) (bd_append (esc_bd true _) (bd_append (bd_mem (by decide)) (bd_append (esc_bd false _) (bd_append (bd_mem (by decide)) (bd_append (nm_bda _) (bd_mem (by decide)))))))))
theorem made_eq (l : Bs) (vs ts : List ByteArray) (n : Nat) : (⟨#[60, 114, 62]⟩ : ByteArray) ++ sb (txt l vs ts n) ++ ⟨#[60, 47, 114, 62]⟩ = sb (M.madeDoc (prts l vs ts n)) := by
  unfold M.madeDoc txt
  rw [items_app (prts l vs ts n) [60, 47, 114, 62]]
  have e : (60 :: 114 :: 62 :: (M.items (prts l vs ts n) [] ++ [60, 47, 114, 62]) : Bs) = [60, 114, 62] ++ (M.items (prts l vs ts n) [] ++ [60, 47, 114, 62]) := rfl
  rw [e, ← sb_append, ← sb_append]
  simp only [ByteArray.append_assoc]
  rfl
theorem made_bd (l : Bs) (vs ts : List ByteArray) (n : Nat) : Bd (M.madeDoc (prts l vs ts n)) := by
  have e : M.madeDoc (prts l vs ts n) = [60, 114, 62] ++ (txt l vs ts n ++ [60, 47, 114, 62]) := by
    unfold M.madeDoc txt
    rw [items_app (prts l vs ts n) [60, 47, 114, 62]]
    rfl
  rw [e]
  exact bd_append (bd_mem (by decide)) (bd_append (txt_bd l vs ts n) (bd_mem (by decide)))
theorem made_len (l : Bs) (vs ts : List ByteArray) (n : Nat) (hn : n ≤ 30) (h : ∀ i, i < n → (vs.getD i ⟨#[]⟩).size ≤ 100 ∧ (ts.getD i ⟨#[]⟩).size ≤ 100) : (M.madeDoc (prts l vs ts n)).length ≤ 40000 := by
  have e : M.madeDoc (prts l vs ts n) = [60, 114, 62] ++ (txt l vs ts n ++ [60, 47, 114, 62]) := by
    unfold M.madeDoc txt
    rw [items_app (prts l vs ts n) [60, 47, 114, 62]]
    rfl
  have h1 := txt_len l vs ts n h
  rw [e]
  simp
  omega
theorem made_ok (l : Bs) (vs ts : List ByteArray) (n : Nat) (h : ∀ i, i < n → (vs.getD i ⟨#[]⟩).size ≤ 100 ∧ (ts.getD i ⟨#[]⟩).size ≤ 100 ∧ ts.getD i ⟨#[]⟩ ≠ ⟨#[]⟩) : ∀ p ∈ prts l vs ts n, M.ItOk 4096 p := by
  intro p hp
  obtain ⟨i, hi, rfl⟩ := List.getElem_of_mem hp
  rw [prts_len] at hi
  have hg := prts_get l vs ts n i hi
  rw [List.getElem?_eq_getElem (by rw [prts_len]; exact hi)] at hg
  have e := Option.some.inj hg
  rw [e]
  have q := h i hi
  refine ⟨M.nm_of _, by show (2 : Int) ≤ 4096; omega, ?_, ?_, bl_mem _, bl_mem _, ?_⟩
  · simp only [prt]; rw [bl_len]; omega
  · simp only [prt]; rw [bl_len]; omega
  · simp only [prt]
    intro q2
    apply q.2.2
    rw [← sb_bl (ts.getD i ⟨#[]⟩), q2]
    rfl
theorem made_get : ∀ (l : List (Bs × Bs × Bs)) (es : List Ev), M.MadeEv l es → es.length = 3 * l.length ∧ ∀ i p, l[i]? = some p → ∃ k1 k2 k3 k4, es[3 * i]? = some ⟨1, k1, p.1, [], [⟨[118], p.2.1, k2⟩]⟩ ∧ es[3 * i + 1]? = some ⟨3, k3, [], p.2.2, []⟩ ∧ es[3 * i + 2]? = some ⟨2, k4, p.1, [], []⟩
  | [], es, h => by
    rw [M.MadeEv] at h
    subst h
    exact ⟨rfl, fun i p hp => by simp at hp⟩
  | q :: l, es, h => by
    obtain ⟨k1, k2, k3, k4, es', rfl, h'⟩ := h
    obtain ⟨h1, h2⟩ := made_get l es' h'
    refine ⟨by simp [h1]; omega, fun i p hp => ?_⟩
    cases i with
    | zero =>
      simp at hp
      subst hp
      exact ⟨k1, k2, k3, k4, rfl, rfl, rfl⟩
    | succ i =>
      simp at hp
      obtain ⟨a, b, c, d, e1, e2, e3⟩ := h2 i p hp
      refine ⟨a, b, c, d, ?_, ?_, ?_⟩
      · rw [show 3 * (i + 1) = 3 * i + 1 + 1 + 1 by omega]; simpa using e1
      · rw [show 3 * (i + 1) + 1 = 3 * i + 1 + 1 + 1 + 1 by omega]; simpa using e2
      · rw [show 3 * (i + 1) + 2 = 3 * i + 2 + 1 + 1 + 1 by omega]; simpa using e3
end Go.Proofs.YtjcgnbmpnaapdaaDoor
