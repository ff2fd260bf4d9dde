/- bind without attributes. -/
import Derived.Test.YtgidbmiahckleaaNs6
namespace Go.Proofs.Ytgidbmiahckleaa
open Go.RowKit
set_option linter.unusedVariables false

set_option maxRecDepth 100000 in
set_option maxHeartbeats 1600000 in
theorem bind_nil {a : Option Addr} {cap : Nat} {O : Nat → Prop} {w : World} {P : Nat} {nv hv : Value} {l : List (ByteArray × ByteArray)} (hP : ScB w P nv hv) (hN : NowAt w nv l) (hO : O P) (hOb : ∀ b, nv = .map (some b) → O b) {n : Nat} {xs : List Value} (hrow : w.ownsRow 0 78 1 hv n xs) (hn : n ≤ 1000000) :
    Calls Try.prog 27 #[.pointer (some ⟨P, 0, none⟩), .slice a 0 cap] w fun e w' => e = .returned (.tuple #[]) ∧ ∃ nv' v4 g2 cap2, ScB w' P nv' (.slice (some ⟨g2, 0, none⟩) (n + 1) cap2) ∧ NowAt w' nv' l ∧ HidAt w' v4 [] ∧ w'.ownsRow 0 78 1 (.slice (some ⟨g2, 0, none⟩) (n + 1) cap2) (n + 1) (xs ++ [v4]) ∧ (hv.ownBlock = some g2 ∨ w.heap.size ≤ g2) ∧ (∀ b, nv' = .map (some b) → (O b ∨ w.heap.size ≤ b) ∧ v4 ≠ .map (some b)) ∧ (∀ b, v4 = .map (some b) → w.heap.size ≤ b) ∧ Fro (fun k => O k ∨ hv.ownBlock = some k) w w' := by
  have hI0 : BI O w P hv (l, []) (.map none) w := ⟨⟨nv, hP, hN, fun b hb => ⟨.inl (hOb b hb), by simp⟩⟩, .inl ⟨rfl, rfl⟩, fun b hb => by simp at hb, Fro.refl _ _⟩
  obtain ⟨i0, hi0, hz0, hz1, hz2⟩ := info78p
  have s3 : ∀ b, nv = .map (some b) → (O b ∨ w.heap.size ≤ b) ∧ Value.map none ≠ .map (some b) := fun b hb => ⟨.inl (hOb b hb), by simp⟩
  have HR : Hid _ := And.intro hI0 (And.intro hrow (And.intro hP (And.intro hN s3)))
  clear hI0 hrow hN s3 hOb
  obtain ⟨k0, k1, f0, f1⟩ := fresh2 hP
  clear hP
  have hal : Below w.heap.size w (w.alloc (.cells #[.map none] 78)) := (Below.refl _ _).alloc (Nat.le_refl _) _
  have hgal : Hid _ := hal
  clear hal
  go_enter Try.func27, Try.ntmps27
  go_wp2_with fail
  go_loopg [4, 13] 0 (fun m v4 v13 wr => v4 = .map none ∧ v13 = .int .i64 0 ∧ wr = w)
  case atStart => exact ⟨rfl, rfl, rfl⟩
  case round =>
    obtain ⟨rfl, rfl, e⟩ := hrel
    subst e
    go_wp2_with (first | (at_builtin; refine wpList_append_lies _ rfl (.tmp 71) (.tmp 73) 79 rfl 0 78 i0 (.map none) 1 8 Try.underlying79 hi0 hz0 hz1 hz2 rfl (by decide) hv n xs rfl (World.ownsRow.alloc HR.out.2.1 _) ⟨wr.heap.size, 0, none⟩ 1 1 [.map none] rfl rfl (cell_one_new _ _ _) (by intro u hu; simp at hu; subst hu; rfl) (by decide) (by unfold maxLen; omega) (by omega) (Nat.zero_le _) _ rfl ?_; intro g2 cap2 w3 hown3 hg3 hat hlt3; have b3 := grown_o hg3 (HR.out.2.2.1.below hgal.out) (row_ne HR.out.2.1 HR.out.2.2.1 (by decide)); obtain ⟨y0, y1, y2, y3⟩ := fresh2 b3; have H3 : Hid _ := And.intro hown3 (And.intro hg3 (And.intro hat b3)); clear hown3 hg3 hat b3))
    go_end0
    exact ⟨rfl, HR.out.1.done hO HR.out.2.1 HR.out.2.2.1 HR.out.2.2.2.1 HR.out.2.2.2.2 hgal.out H3.out.1 H3.out.2.1 H3.out.2.2.1 H3.out.2.2.2⟩
end Go.Proofs.Ytgidbmiahckleaa
