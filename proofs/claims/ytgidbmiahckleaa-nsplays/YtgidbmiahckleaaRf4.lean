/- The second telling's name. -/
import Derived.Test.YtgidbmiahckleaaRf3
namespace Go.Proofs.Ytgidbmiahckleaa
open Go.RowKit
set_option linter.unusedVariables false

def nameR (L : List Bs) (s : ByteArray) (attr : Bool) : ByteArray × ByteArray × Int :=
  if ((qn s).2.2 = false ∨ (qn s).1.toList = xnL) then (⟨#[]⟩, ⟨#[]⟩, 2) else if (attr = true ∧ (qn s).1.toList = []) then (⟨#[]⟩, (qn s).2.1, 0) else resR L s
set_option maxRecDepth 100000 in
set_option maxHeartbeats 1600000 in
theorem name_r {w : World} {Q : Nat} {L : List Bs} (hR : RS w Q L) (s : ByteArray) (attr : Bool) (hs : s.size ≤ 100000) :
    Calls Try.prog 31 #[.pointer (some ⟨Q, 0, none⟩), .string s, .bool attr] w fun e w' => e = .returned (.tuple #[.agg #[.string (nameR L s attr).1, .string (nameR L s attr).2.1], .int .i64 (nameR L s attr).2.2]) ∧ Below w.heap.size w w' := by
  have hb0 : Below w.heap.size w (w.alloc (.cells #[.string ⟨#[]⟩, .string ⟨#[]⟩] 37)) := (Below.refl _ _).alloc (Nat.le_refl _) _
  have hz0 : (w.alloc (.cells #[.string ⟨#[]⟩, .string ⟨#[]⟩] 37)).heap.size = w.heap.size + 1 := by simp
  have hnw := nw_heap w (.cells #[.string ⟨#[]⟩, .string ⟨#[]⟩] 37)
  have HH : Hid _ := And.intro hR (And.intro hb0 hnw)
  clear hR hb0 hnw
  have HQ := fun W => rqname_any s W hs
  have hRd : nameR L s attr = if ((qn s).2.2 = false ∨ (qn s).1.toList = xnL) then (⟨#[]⟩, ⟨#[]⟩, 2) else if (attr = true ∧ (qn s).1.toList = []) then (⟨#[]⟩, (qn s).2.1, 0) else resR L s := rfl
  generalize nameR L s attr = R at *
  generalize qn s = q at *
  obtain ⟨pf, lo, ok⟩ := q
  dsimp only at *
  have HQ2 : Hid _ := HQ
  have HR : Hid _ := hRd
  clear HQ hRd
  go_enter Try.func31, Try.ntmps31
  go_wp2_with fail
  refine Calls.mono (HQ2.out _) ?_
  rintro e w2 ⟨rfl, hb2⟩
  have hblk : w2.heap[w.heap.size]? = some (.cells #[.string ⟨#[]⟩, .string ⟨#[]⟩] 37 (0, 0)) := (hb2.block _ (by rw [hz0]; omega)).trans HH.out.2.2
  have hbw2 := HH.out.2.1.trans (hb2.mono (by omega))
  obtain ⟨d0, d1, e0, e1⟩ := fresh2 hblk
  have hz2 := hb2.size
  rw [hz0] at hz2
  have H2 : Hid _ := And.intro hbw2 hblk
  clear hb2 hblk hbw2
  cases ok
  · go_wp2_with fail
    obtain ⟨t0, t1, tb⟩ := set2 H2.out.1 (Nat.le_refl _) H2.out.2 (.string ⟨#[]⟩) (.string ⟨#[]⟩)
    generalize ((w2.setCell ⟨w.heap.size, 0, none⟩ (.string ⟨#[]⟩)).setCell ⟨w.heap.size, 1, none⟩ (.string ⟨#[]⟩)) = W5 at *
    exact bodyPost_ret (v := .tuple #[.agg #[.string ⟨#[]⟩, .string ⟨#[]⟩], .int .i64 2]) (by simp [results, Try.results31, go_sem, t0, t1]) rfl ⟨by rw [HR.out, if_pos (.inl (by simp))], tb⟩
  by_cases hx : pf.toList = xnL
  · have hx2 : (pf.toList == xnL) = true := by simp [hx]
    have HX : Hid _ := hx
    go_wp2_with fail
    obtain ⟨t0, t1, tb⟩ := set2 H2.out.1 (Nat.le_refl _) H2.out.2 (.string ⟨#[]⟩) (.string ⟨#[]⟩)
    generalize ((w2.setCell ⟨w.heap.size, 0, none⟩ (.string ⟨#[]⟩)).setCell ⟨w.heap.size, 1, none⟩ (.string ⟨#[]⟩)) = W5 at *
    exact bodyPost_ret (v := .tuple #[.agg #[.string ⟨#[]⟩, .string ⟨#[]⟩], .int .i64 2]) (by simp [results, Try.results31, go_sem, t0, t1]) rfl ⟨by rw [HR.out, if_pos (.inr HX.out)], tb⟩
  have hx2 : (pf.toList == xnL) = false := by simpa using hx
  have hno : ¬ ((true : Bool) = false ∨ pf.toList = xnL) := by
    rintro (q | q)
    · exact Bool.noConfusion q
    · exact hx q
  by_cases hA : attr = true ∧ pf.toList = []
  · obtain ⟨rfl, hp⟩ := hA
    have hp2 : (pf.toList == []) = true := by simp [hp]
    have hp3 : pf.toList.isEmpty = true := by simp [hp]
    have HP : Hid _ := And.intro hno hp
    clear hno
    go_wp2_with fail
    obtain ⟨t0, t1, tb⟩ := set2 H2.out.1 (Nat.le_refl _) H2.out.2 (.string ⟨#[]⟩) (.string lo)
    generalize ((w2.setCell ⟨w.heap.size, 0, none⟩ (.string ⟨#[]⟩)).setCell ⟨w.heap.size, 1, none⟩ (.string lo)) = W5 at *
    exact bodyPost_ret (v := .tuple #[.agg #[.string ⟨#[]⟩, .string lo], .int .i64 0]) (by simp [results, Try.results31, go_sem, t0, t1]) rfl ⟨by rw [HR.out, if_neg HP.out.1, if_pos ⟨by simp, HP.out.2⟩], tb⟩
  have HS := resolve_r (HH.out.1.below H2.out.1) s hs
  have HRR : R = resR L s := by rw [HR.out, if_neg hno, if_neg hA]
  generalize resR L s = q at *
  obtain ⟨q1, q2, q3⟩ := q
  subst HRR
  dsimp only at *
  have HS2 : Hid _ := HS
  have HA : Hid _ := hA
  clear HS hno HR
  cases attr
  · clear hA
    go_wp2_with fail
    refine Calls.mono HS2.out ?_
    rintro e w3 ⟨rfl, hb3⟩
    have hblk3 := (hb3.block _ (by omega)).trans H2.out.2
    obtain ⟨d0', d1', e0', e1'⟩ := fresh2 hblk3
    have H3 : Hid _ := And.intro (H2.out.1.trans (hb3.mono (by omega))) hblk3
    clear hb3 hblk3 d0 d1 e0 e1
    go_wp2_with fail
    obtain ⟨t0, t1, tb⟩ := set2 H3.out.1 (Nat.le_refl _) H3.out.2 (.string q1) (.string q2)
    generalize ((w3.setCell ⟨w.heap.size, 0, none⟩ (.string q1)).setCell ⟨w.heap.size, 1, none⟩ (.string q2)) = W5 at *
    exact bodyPost_ret (v := .tuple #[.agg #[.string q1, .string q2], .int .i64 q3]) (by simp [results, Try.results31, go_sem, t0, t1]) rfl ⟨rfl, tb⟩
  · have hp1 : ¬ pf.toList = [] := fun q => HA.out ⟨rfl, q⟩
    have hp2 : (pf.toList == []) = false := by simpa using hp1
    have hp3 : pf.toList.isEmpty = false := by simpa using hp1
    clear hA
    go_wp2_with fail
    refine Calls.mono HS2.out ?_
    rintro e w3 ⟨rfl, hb3⟩
    have hblk3 := (hb3.block _ (by omega)).trans H2.out.2
    obtain ⟨d0', d1', e0', e1'⟩ := fresh2 hblk3
    have H3 : Hid _ := And.intro (H2.out.1.trans (hb3.mono (by omega))) hblk3
    clear hb3 hblk3 d0 d1 e0 e1
    go_wp2_with fail
    obtain ⟨t0, t1, tb⟩ := set2 H3.out.1 (Nat.le_refl _) H3.out.2 (.string q1) (.string q2)
    generalize ((w3.setCell ⟨w.heap.size, 0, none⟩ (.string q1)).setCell ⟨w.heap.size, 1, none⟩ (.string q2)) = W5 at *
    exact bodyPost_ret (v := .tuple #[.agg #[.string q1, .string q2], .int .i64 q3]) (by simp [results, Try.results31, go_sem, t0, t1]) rfl ⟨rfl, tb⟩
end Go.Proofs.Ytgidbmiahckleaa
