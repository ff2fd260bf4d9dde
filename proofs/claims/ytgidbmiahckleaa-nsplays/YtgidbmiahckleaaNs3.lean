/- Depth, element, attribute. -/
import Derived.Test.YtgidbmiahckleaaNs2
namespace Go.Proofs.Ytgidbmiahckleaa
open Go.RowKit
set_option linter.unusedVariables false

theorem depth_s {w : World} {P : Nat} {nv : Value} {a : Option Addr} {n c : Nat} (hP : ScB w P nv (.slice a n c)) : Calls Try.prog 20 #[.pointer (some ⟨P, 0, none⟩)] w fun e w' => e = .returned (.int .i64 n) ∧ w' = w := by
  have c1 : w.cell? ⟨P, 1, none⟩ = some (.slice a n c) := sc_cell (i := 1) hP
  go_enter Try.func20, Try.ntmps20
  go_wp2_with fail
  go_ret
  exact ⟨rfl, rfl⟩
theorem fresh2 {w2 : World} {X : Nat} {x y : Value} {t : TypeId} (hblk : w2.heap[X]? = some (.cells #[x, y] t (0, 0))) : w2.cell? ⟨X, 0, none⟩ = some x ∧ w2.cell? ⟨X, 1, none⟩ = some y ∧ w2.frozen? ⟨X, 0, none⟩ = false ∧ w2.frozen? ⟨X, 1, none⟩ = false := by
  refine ⟨?_, ?_, ?_, ?_⟩ <;> simp [World.cell?, World.frozen?, hblk]
/-- A tag's name. -/
def eltS (l : List (ByteArray × ByteArray)) (s : ByteArray) : ByteArray × ByteArray × Int := if hpB s = true then (⟨#[]⟩, ⟨#[]⟩, 2) else resS l s
set_option maxRecDepth 100000 in
set_option maxHeartbeats 1600000 in
theorem element_s {w : World} {P : Nat} {nv hv : Value} {l : List (ByteArray × ByteArray)} (hP : ScB w P nv hv) (hN : NowAt w nv l) (s : ByteArray) (hs : s.size ≤ maxLen) :
    Calls Try.prog 39 #[.pointer (some ⟨P, 0, none⟩), .string s] w fun e w' => e = .returned (.tuple #[.agg #[.string (eltS l s).1, .string (eltS l s).2.1], .int .i64 (eltS l s).2.2]) ∧ Below w.heap.size w w' := by
  have hb0 : Below w.heap.size w (w.alloc (.cells #[.string ⟨#[]⟩, .string ⟨#[]⟩] 37)) := (Below.refl _ _).alloc (Nat.le_refl _) _
  have hz0 : (w.alloc (.cells #[.string ⟨#[]⟩, .string ⟨#[]⟩] 37)).heap.size = w.heap.size + 1 := by simp
  have hnw := nw_heap w (.cells #[.string ⟨#[]⟩, .string ⟨#[]⟩] 37)
  have HR := resolve_s (hP.below hb0) (hN.below hb0) s hs
  have HP := fun W => hp_s s W hs
  have hE : eltS l s = if hpB s = true then (⟨#[]⟩, ⟨#[]⟩, 2) else resS l s := rfl
  generalize eltS l s = E at *
  generalize resS l s = R at *
  generalize hpB s = b at *
  obtain ⟨r1, r2, r3⟩ := R
  dsimp only at *
  have HH : Hid _ := And.intro hb0 (And.intro hnw (And.intro HR (And.intro HP hE)))
  clear hP hN hb0 hnw HR HP hE
  cases b
  · go_enter Try.func39, Try.ntmps39
    go_wp2_with (first | (go_at_call 49; refine Calls.mono (HH.out.2.2.2.1 _) ?_; rintro e w' ⟨rfl, rfl⟩))
    refine Calls.mono HH.out.2.2.1 ?_
    rintro e w2 ⟨rfl, hb2⟩
    have hblk : w2.heap[w.heap.size]? = some (.cells #[.string ⟨#[]⟩, .string ⟨#[]⟩] 37 (0, 0)) := (hb2.block _ (by rw [hz0]; omega)).trans HH.out.2.1
    have hbw2 := HH.out.1.trans (hb2.mono (by omega))
    obtain ⟨d0, d1, e0, e1⟩ := fresh2 hblk
    have H2 : Hid _ := And.intro hbw2 hblk
    clear hb2 hblk hbw2
    go_wp2_with fail
    obtain ⟨t0, t1, tb⟩ := set2 H2.out.1 (Nat.le_refl _) H2.out.2 (.string r1) (.string r2)
    generalize ((w2.setCell ⟨w.heap.size, 0, none⟩ (.string r1)).setCell ⟨w.heap.size, 1, none⟩ (.string r2)) = W5 at *
    exact bodyPost_ret (v := .tuple #[.agg #[.string r1, .string r2], .int .i64 r3]) (by simp [results, Try.results39, go_sem, t0, t1]) rfl ⟨by rw [HH.out.2.2.2.2]; rfl, tb⟩
  · obtain ⟨d0, d1, e0, e1⟩ := fresh2 HH.out.2.1
    go_enter Try.func39, Try.ntmps39
    go_wp2_with (first | (go_at_call 49; refine Calls.mono (HH.out.2.2.2.1 _) ?_; rintro e w' ⟨rfl, rfl⟩))
    exact bodyPost_ret (v := .tuple #[.agg #[.string ⟨#[]⟩, .string ⟨#[]⟩], .int .i64 2]) (by simp [results, Try.results39, go_sem, d0, d1]) rfl ⟨by rw [HH.out.2.2.2.2]; rfl, HH.out.1⟩
/-- An attribute's name. -/
def attS (l : List (ByteArray × ByteArray)) (s : ByteArray) : ByteArray × ByteArray × Int := if decide (0 ≤ ix (bl s)) = true then eltS l s else (⟨#[]⟩, (eltS l s).2.1, (eltS l s).2.2)
set_option maxRecDepth 100000 in
set_option maxHeartbeats 1600000 in
theorem attribute_s {w : World} {P : Nat} {nv hv : Value} {l : List (ByteArray × ByteArray)} (hP : ScB w P nv hv) (hN : NowAt w nv l) (s : ByteArray) (hs : s.size ≤ maxLen) :
    Calls Try.prog 40 #[.pointer (some ⟨P, 0, none⟩), .string s] w fun e w' => e = .returned (.tuple #[.agg #[.string (attS l s).1, .string (attS l s).2.1], .int .i64 (attS l s).2.2]) ∧ Below w.heap.size w w' := by
  have hb0 : Below w.heap.size w (w.alloc (.cells #[.string ⟨#[]⟩, .string ⟨#[]⟩] 37)) := (Below.refl _ _).alloc (Nat.le_refl _) _
  have hz0 : (w.alloc (.cells #[.string ⟨#[]⟩, .string ⟨#[]⟩] 37)).heap.size = w.heap.size + 1 := by simp
  have hnw := nw_heap w (.cells #[.string ⟨#[]⟩, .string ⟨#[]⟩] 37)
  have HR := element_s (hP.below hb0) (hN.below hb0) s hs
  have HP := fun W => contains_any s W
  have hE : attS l s = if decide (0 ≤ ix (bl s)) = true then eltS l s else (⟨#[]⟩, (eltS l s).2.1, (eltS l s).2.2) := rfl
  generalize attS l s = E at *
  generalize eltS l s = R at *
  generalize decide (0 ≤ ix (bl s)) = b at *
  obtain ⟨r1, r2, r3⟩ := R
  dsimp only at *
  have HH : Hid _ := And.intro hb0 (And.intro hnw (And.intro HR (And.intro HP hE)))
  clear hP hN hb0 hnw HR HP hE
  cases b
  all_goals
    go_enter Try.func40, Try.ntmps40
    go_wp2_with fail
    refine Calls.mono HH.out.2.2.1 ?_
    rintro e w2 ⟨rfl, hb2⟩
    have hblk : w2.heap[w.heap.size]? = some (.cells #[.string ⟨#[]⟩, .string ⟨#[]⟩] 37 (0, 0)) := (hb2.block _ (by rw [hz0]; omega)).trans HH.out.2.1
    have hbw2 := HH.out.1.trans (hb2.mono (by omega))
    have hz2 := hb2.size
    rw [hz0] at hz2
    have hne : w.heap.size ≠ w2.heap.size := by omega
    have hal : ∀ o, (w2.alloc o).heap[w.heap.size]? = some (.cells #[.string ⟨#[]⟩, .string ⟨#[]⟩] 37 (0, 0)) := fun o => ((((Below.refl w2.heap.size w2).alloc (Nat.le_refl _) o)).block _ (by omega)).trans hblk
    have d0 := fun o => (fresh2 (hal o)).1
    have d1 := fun o => (fresh2 (hal o)).2.1
    have e0 := fun o => (fresh2 (hal o)).2.2.1
    have e1 := fun o => (fresh2 (hal o)).2.2.2
    have H2 : Hid _ := And.intro hbw2 hal
    clear hb2 hblk hbw2 hal
    go_wp2_with (first | (go_at_call 48; refine Calls.mono (HH.out.2.2.2.1 _) ?_; rintro e w' ⟨rfl, rfl⟩))
  · obtain ⟨t0, t1, tb⟩ := set2 (H2.out.1.alloc (by omega) (.cells #[.string ⟨#[]⟩, .string r2] 37)) (Nat.le_refl _) (H2.out.2 _) (.string ⟨#[]⟩) (.string r2)
    generalize (((w2.alloc (.cells #[.string ⟨#[]⟩, .string r2] 37)).setCell ⟨w.heap.size, 0, none⟩ (.string ⟨#[]⟩)).setCell ⟨w.heap.size, 1, none⟩ (.string r2)) = W5 at *
    exact bodyPost_ret (v := .tuple #[.agg #[.string ⟨#[]⟩, .string r2], .int .i64 r3]) (by simp [results, Try.results40, go_sem, t0, t1]) rfl ⟨by rw [HH.out.2.2.2.2]; rfl, tb⟩
  · obtain ⟨t0, t1, tb⟩ := set2 (H2.out.1.alloc (by omega) (.cells #[.string r1, .string r2] 37)) (Nat.le_refl _) (H2.out.2 _) (.string r1) (.string r2)
    generalize (((w2.alloc (.cells #[.string r1, .string r2] 37)).setCell ⟨w.heap.size, 0, none⟩ (.string r1)).setCell ⟨w.heap.size, 1, none⟩ (.string r2)) = W5 at *
    exact bodyPost_ret (v := .tuple #[.agg #[.string r1, .string r2], .int .i64 r3]) (by simp [results, Try.results40, go_sem, t0, t1]) rfl ⟨by rw [HH.out.2.2.2.2]; rfl, tb⟩
end Go.Proofs.Ytgidbmiahckleaa
