/- Open by the program and by the second telling: plain. -/
import Derived.Test.YtgidbmiahckleaaPl3
namespace Go.Proofs.Ytgidbmiahckleaa
set_option linter.unusedVariables false
set_option linter.unusedSimpArgs false

/-- The second telling's first loop. -/
def rgo1 : Ats → Bs → Except Int Bs
  | [], lb => .ok lb
  | a :: ats, lb =>
    if (binR a.1).2 = false then (if a.1 = xnB then .error a.2.2 else rgo1 ats lb)
    else if badR (binR a.1).1 a.1 a.2.1 = true then .error a.2.2 else rgo1 ats (lb ++ [((binR a.1).1, a.2.1)])
/-- Its second loop. -/
def rgo2 (L : List Bs) : Ats → List Out → Except (Int × Int) (List Out)
  | [], out => .ok out
  | a :: ats, out =>
    if (binR a.1).2 = true then rgo2 L ats out
    else if (nameR L a.1 true).2.2 ≠ 0 then .error (a.2.2, (nameR L a.1 true).2.2)
    else if hasN (out.map (·.1)) ((nameR L a.1 true).1, (nameR L a.1 true).2.1) = true then .error (a.2.2, 5)
    else rgo2 L ats (out ++ [(((nameR L a.1 true).1, (nameR L a.1 true).2.1), a.2.1, a.2.2)])
def opR (L : List Bs) (nm : ByteArray) (pl : Int) (ats : Ats) : Except (Int × Int) ((ByteArray × ByteArray) × List Out) :=
  match rgo1 ats [] with
  | .error p => .error (p, 2)
  | .ok lb => if (nameR (L ++ [lb]) nm false).2.2 ≠ 0 then .error (pl, (nameR (L ++ [lb]) nm false).2.2) else match rgo2 (L ++ [lb]) ats [] with
    | .error e => .error e
    | .ok out => .ok (((nameR (L ++ [lb]) nm false).1, (nameR (L ++ [lb]) nm false).2.1), out)
theorem rgo1_eq : ∀ (ats : Ats) (lb : Bs), rgo1 ats lb = match ats.find? bad with
    | some a => .error a.2.2
    | none => .ok (colR ats lb)
  | [], lb => rfl
  | a :: ats, lb => by
    have e2 : colR (a :: ats) lb = colR ats (if (binR a.1).2 = true then lb ++ [((binR a.1).1, a.2.1)] else lb) := rfl
    rw [rgo1, List.find?_cons, e2]
    by_cases hx : a.1 = xnB
    · have hb : bad a = true := by unfold bad; rw [hx, may_xn]; rfl
      have h2 : (binR a.1).2 = false := by rw [hx]; exact bin_xn.1
      rw [if_pos h2, if_pos hx, hb]
    · have hb := bin_eq hx
      cases hbi : (bindS a.1).2 with
      | false =>
        have h2 : (binR a.1).2 = false := by rw [hb.1]; exact hbi
        have hm : bad a = false := by
          unfold bad mayS mayC
          rw [hbi]
          rfl
        rw [if_pos h2, if_neg hx, hm, if_neg (by rw [h2]; simp)]
        exact rgo1_eq ats lb
      | true =>
        have h2 : (binR a.1).2 = true := by rw [hb.1]; exact hbi
        have hm : bad a = badR (binR a.1).1 a.1 a.2.1 := by
          unfold bad
          rw [may_bad hbi, hb.2 hbi]
          simp
        rw [if_neg (by rw [h2]; simp), if_pos h2, hm]
        cases hq : badR (binR a.1).1 a.1 a.2.1 with
        | true => rw [if_pos rfl]
        | false =>
          rw [if_neg (by simp)]
          exact rgo1_eq ats _
theorem no_xn {ats : Ats} (h : ats.find? bad = none) : ∀ a ∈ ats, a.1 ≠ xnB := by
  intro a ha e
  rw [List.find?_eq_none] at h
  apply h a ha
  unfold bad
  rw [e, may_xn]
  rfl
theorem rgo2_eq {l : Bs} {L : List Bs} (h : Rel l L) : ∀ (ats : Ats) (out : List Out), (∀ a ∈ ats, a.1 ≠ xnB) → tgo l ats out = rgo2 L ats out
  | [], out, _ => rfl
  | a :: ats, out, hx => by
    rw [tgo, rgo2, (bin_eq (hx a (by simp))).1, att_rel h]
    have ih := fun o => rgo2_eq h ats o (fun b hb => hx b (by simp [hb]))
    rw [ih, ih]
theorem rel_bind {l : Bs} {L : List Bs} (h : Rel l L) {ats : Ats} (hn : ats.find? bad = none) : Rel (binds l (ps ats)).1 (L ++ [colR ats []]) := by
  intro s hs
  unfold binds
  rw [bind_rel (spc l) ats l [] [] (no_xn hn) (fun t ht => by simp [lkp]) (fun t ht => by simp [lkp, has]) s hs]
  unfold spR
  rw [List.reverse_append]
  show _ = ((colR ats []) :: L.reverse).findSome? _
  rw [List.findSome?_cons]
  have h0 := h s hs
  unfold spR at h0
  cases lkp (colR ats []) s with
  | some v => rfl
  | none => rw [Option.none_or, h0]
/-- Open by both. -/
theorem op_rel {l : Bs} {L : List Bs} (h : Rel l L) (nm : ByteArray) (pl : Int) (ats : Ats) : opS l nm pl ats = opR L nm pl ats := by
  unfold opS opR
  rw [rgo1_eq]
  cases hf : ats.find? bad with
  | some a => rfl
  | none =>
    have hr := rel_bind h hf
    dsimp only
    unfold tagS
    rw [elt_rel hr, rgo2_eq hr ats [] (no_xn hf)]
    rfl
end Go.Proofs.Ytgidbmiahckleaa
