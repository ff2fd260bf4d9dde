/- The second telling's Resolve. -/
import Derived.Test.YtgidbmiahckleaaRf1
import Derived.Test.YtgidbmiahckleaaRfn
namespace Go.Proofs.Ytgidbmiahckleaa
open Go.RowKit
set_option linter.unusedVariables false

theorem RowB.below {w w' : World} {v : Value} {b : Bs} (h : RowB w v b) (hb : Below w.heap.size w w') : RowB w' v b := h.fro (Fro.below (O := fun _ => False) hb) (fun _ _ q => q)
theorem RowL.below {w w' : World} {v : Value} {L : List Bs} (h : RowL w v L) (hb : Below w.heap.size w w') : RowL w' v L := by
  obtain ⟨a, cap, rfl, h1, h2, h3⟩ := h
  refine ⟨a, cap, rfl, h1, h2, ?_⟩
  rcases h3 with h3 | ⟨g, o, rfl, h4, h5⟩
  · exact .inl h3
  · refine .inr ⟨g, o, rfl, Nat.lt_of_lt_of_le h4 hb.size, fun i hi => ?_⟩
    obtain ⟨u, q0, q1⟩ := h5 i hi
    exact ⟨u, (hb.cell h4).trans q0, q1.below hb⟩
theorem RS.below {w w' : World} {Q : Nat} {L : List Bs} (h : RS w Q L) (hb : Below w.heap.size w w') : RS w' Q L := by
  obtain ⟨v, h1, h2⟩ := h
  exact ⟨v, (hb.block _ (lt_of h1)).trans h1, h2.below hb⟩
/-- What a name stands for by the second telling. -/
def resR (L : List Bs) (s : ByteArray) : ByteArray × ByteArray × Int :=
  if (qn s).2.2 = false then (⟨#[]⟩, ⟨#[]⟩, 2) else if (spaceR L (qn s).1).2 = false then (⟨#[]⟩, ⟨#[]⟩, 4) else ((spaceR L (qn s).1).1, (qn s).2.1, 0)
set_option maxRecDepth 100000 in
set_option maxHeartbeats 1600000 in
theorem resolve_r {w : World} {Q : Nat} {L : List Bs} (hR : RS w Q L) (s : ByteArray) (hs : s.size ≤ 100000) :
    Calls Try.prog 17 #[.pointer (some ⟨Q, 0, none⟩), .string s] w fun e w' => e = .returned (.tuple #[.agg #[.string (resR L s).1, .string (resR L s).2.1], .int .i64 (resR L s).2.2]) ∧ Below w.heap.size w w' := by
  have hb0 : Below w.heap.size w (w.alloc (.cells #[.string ⟨#[]⟩, .string ⟨#[]⟩] 37)) := (Below.refl _ _).alloc (Nat.le_refl _) _
  have hz0 : (w.alloc (.cells #[.string ⟨#[]⟩, .string ⟨#[]⟩] 37)).heap.size = w.heap.size + 1 := by simp
  have hnw := nw_heap w (.cells #[.string ⟨#[]⟩, .string ⟨#[]⟩] 37)
  have HH : Hid _ := And.intro hR (And.intro hb0 hnw)
  clear hR hb0 hnw
  have HQ := fun W => rqname_any s W hs
  have hRd : resR L s = if (qn s).2.2 = false then (⟨#[]⟩, ⟨#[]⟩, 2) else if (spaceR L (qn s).1).2 = false then (⟨#[]⟩, ⟨#[]⟩, 4) else ((spaceR L (qn s).1).1, (qn s).2.1, 0) := rfl
  generalize resR L s = R at *
  generalize qn s = q at *
  obtain ⟨pf, lo, ok⟩ := q
  dsimp only at *
  have HQ2 : Hid _ := HQ
  have HR : Hid _ := hRd
  clear HQ hRd
  go_enter Try.func17, Try.ntmps17
  go_wp2_with fail
  refine Calls.mono (HQ2.out _) ?_
  rintro e w2 ⟨rfl, hb2⟩
  have hblk : w2.heap[w.heap.size]? = some (.cells #[.string ⟨#[]⟩, .string ⟨#[]⟩] 37 (0, 0)) := (hb2.block _ (by rw [hz0]; omega)).trans HH.out.2.2
  have hbw2 := HH.out.2.1.trans (hb2.mono (by omega))
  obtain ⟨d0, d1, e0, e1⟩ := fresh2 hblk
  have H2 : Hid _ := And.intro hbw2 hblk
  clear hb2 hblk hbw2
  cases ok
  · go_wp2_with fail
    obtain ⟨t0, t1, tb⟩ := set2 H2.out.1 (Nat.le_refl _) H2.out.2 (.string ⟨#[]⟩) (.string ⟨#[]⟩)
    generalize ((w2.setCell ⟨w.heap.size, 0, none⟩ (.string ⟨#[]⟩)).setCell ⟨w.heap.size, 1, none⟩ (.string ⟨#[]⟩)) = W5 at *
    exact bodyPost_ret (v := .tuple #[.agg #[.string ⟨#[]⟩, .string ⟨#[]⟩], .int .i64 2]) (by simp [results, Try.results17, go_sem, t0, t1]) rfl ⟨by rw [HR.out]; rfl, tb⟩
  · have HS := space_r (HH.out.1.below H2.out.1) pf
    generalize spaceR L pf = q at *
    obtain ⟨sp, ok2⟩ := q
    dsimp only at *
    have HS2 : Hid _ := HS
    clear HS
    cases ok2
    · go_wp2_with (first | (go_at_call 19; refine Calls.mono HS2.out ?_; rintro e w' ⟨rfl, hww⟩; have hww' := hww.symm; subst hww'))
      obtain ⟨t0, t1, tb⟩ := set2 H2.out.1 (Nat.le_refl _) H2.out.2 (.string ⟨#[]⟩) (.string ⟨#[]⟩)
      generalize ((w2.setCell ⟨w.heap.size, 0, none⟩ (.string ⟨#[]⟩)).setCell ⟨w.heap.size, 1, none⟩ (.string ⟨#[]⟩)) = W5 at *
      exact bodyPost_ret (v := .tuple #[.agg #[.string ⟨#[]⟩, .string ⟨#[]⟩], .int .i64 4]) (by simp [results, Try.results17, go_sem, t0, t1]) rfl ⟨by rw [HR.out]; rfl, tb⟩
    · go_wp2_with (first | (go_at_call 19; refine Calls.mono HS2.out ?_; rintro e w' ⟨rfl, hww⟩; have hww' := hww.symm; subst hww'))
      obtain ⟨t0, t1, tb⟩ := set2 H2.out.1 (Nat.le_refl _) H2.out.2 (.string sp) (.string lo)
      generalize ((w2.setCell ⟨w.heap.size, 0, none⟩ (.string sp)).setCell ⟨w.heap.size, 1, none⟩ (.string lo)) = W5 at *
      exact bodyPost_ret (v := .tuple #[.agg #[.string sp, .string lo], .int .i64 0]) (by simp [results, Try.results17, go_sem, t0, t1]) rfl ⟨by rw [HR.out]; rfl, tb⟩
end Go.Proofs.Ytgidbmiahckleaa
