/- known: the statements' own look. -/
import Derived.Test.YtgidbmiahckleaaNs13
namespace Go.Proofs.Ytgidbmiahckleaa
open Go.RowKit
set_option linter.unusedVariables false

def kAts : Ats := [(⟨#[120, 109, 108, 110, 115, 58, 112]⟩, ⟨#[117]⟩, 0), (⟨#[120, 109, 108, 110, 115]⟩, ⟨#[100]⟩, 0), (⟨#[120]⟩, ⟨#[49]⟩, 0)]
def kB : Bs × Hs := ([(⟨#[112]⟩, ⟨#[117]⟩), (⟨#[]⟩, ⟨#[100]⟩)], [(⟨#[112]⟩, none), (⟨#[]⟩, none)])
theorem k_binds : binds [] (ps kAts) = kB := by kernel_rfl
theorem k_op : opS [] ⟨#[112, 58, 97]⟩ 0 kAts = .ok ((⟨#[117]⟩, ⟨#[97]⟩), [((⟨#[]⟩, ⟨#[120]⟩), ⟨#[49]⟩, 0)]) := by kernel_rfl
theorem k_r1 : resS kB.1 ⟨#[98]⟩ = (⟨#[100]⟩, ⟨#[98]⟩, 0) := by kernel_rfl
theorem k_r2 : resS kB.1 ⟨#[113, 58, 98]⟩ = (⟨#[]⟩, ⟨#[]⟩, 4) := by kernel_rfl
set_option maxRecDepth 100000 in
set_option maxHeartbeats 3200000 in
theorem known_s (w : World) : Calls Try.prog 7 #[] w fun e w' => e = .returned (.bool true) ∧ Below w.heap.size w w' := by
  have h1 : ∀ o, SC (fun k => k = w.heap.size) ((w.alloc (.cells #[.map none, .slice none 0 0] 81)).alloc o) w.heap.size [] [] := fun o => (new_sc w).below ((Below.refl _ _).alloc (Nat.le_refl _) o)
  have hA : AtO ((w.alloc (.cells #[.map none, .slice none 0 0] 81)).alloc (.cells #[.string ⟨#[120, 109, 108, 110, 115, 58, 112]⟩, .string ⟨#[117]⟩, .int .i64 0, .string ⟨#[120, 109, 108, 110, 115]⟩, .string ⟨#[100]⟩, .int .i64 0, .string ⟨#[120]⟩, .string ⟨#[49]⟩, .int .i64 0] 72)) (some ⟨w.heap.size + 1, 0, none⟩) kAts := by
    refine .inr ⟨_, _, rfl, AtR.of_block (cs := #[.string ⟨#[120, 109, 108, 110, 115, 58, 112]⟩, .string ⟨#[117]⟩, .int .i64 0, .string ⟨#[120, 109, 108, 110, 115]⟩, .string ⟨#[100]⟩, .int .i64 0, .string ⟨#[120]⟩, .string ⟨#[49]⟩, .int .i64 0]) ?_ rfl (by decide) (by decide)⟩
    have := nw_heap (w.alloc (.cells #[.map none, .slice none 0 0] 81)) (.cells #[.string ⟨#[120, 109, 108, 110, 115, 58, 112]⟩, .string ⟨#[117]⟩, .int .i64 0, .string ⟨#[120, 109, 108, 110, 115]⟩, .string ⟨#[100]⟩, .int .i64 0, .string ⟨#[120]⟩, .string ⟨#[49]⟩, .int .i64 0] 72)
    rwa [sza] at this
  have hO := open_ok (cap := 3) (h1 _) 1 0 ⟨#[112, 58, 97]⟩ ⟨#[]⟩ (by decide) hA (by simp) (by intro _ g off e; simp at e; omega) (by simp) (by decide) k_op k_binds
  have HO : Hid _ := hO
  clear hO hA h1
  go_enter Try.func7, Try.ntmps7
  go_wp2_with (first | (go_at_call 9; refine Calls.mono (new_s _) ?_; rintro e w' ⟨rfl, rfl⟩))
  refine Calls.mono HO.out ?_
  rintro e w2 ⟨sv, rfl, hf, O', hO', hS, hr, hno⟩
  have hz2 := hf.size
  simp only [sza] at hz2
  have hbw : Below w.heap.size w w2 := ⟨hf.os, hf.tape, hf.output, by omega, fun k hk => (hf.block k (by simp only [sza]; omega) (by omega)).trans ((((Below.refl w.heap.size w).alloc (Nat.le_refl _) _).alloc (by simp) _).block k hk)⟩
  rcases hr.2 with ⟨_, h0⟩ | ⟨g, cap, cur, rfl, hgb, hgc, _⟩
  · simp at h0
  have hc0 : w2.cell? ⟨g, 0, none⟩ = some (.string ⟨#[]⟩) := by
    have := hr.cells (g := g) rfl 0 (.string ⟨#[]⟩) rfl
    rwa [addr_add0] at this
  have hc1 : w2.cell? ⟨g, 1, none⟩ = some (.string ⟨#[120]⟩) := by
    have := hr.cells (g := g) rfl 1 (.string ⟨#[120]⟩) rfl
    rwa [addr_add0] at this
  have hgl := lt_of hgc
  have hb2 : ∀ o, Below w2.heap.size w2 (w2.alloc o) := fun o => (Below.refl _ _).alloc (Nat.le_refl _) o
  have hR2 := fun o => resolve_sc (hS.below (hb2 o)) ⟨#[98]⟩ (by decide)
  rw [k_r1] at hR2
  have hO2 : ∀ k, O' k → w.heap.size ≤ k := fun k hk => by
    rcases hO' k hk with q | q
    · omega
    · simp only [sza] at q; omega
  have H2 : Hid _ := And.intro hS (And.intro hbw (And.intro hR2 (And.intro hc0 (And.intro hc1 hb2))))
  clear hS hbw hR2 hc0 hc1 hb2 hr hno hf hO' HO hgc
  go_wp2_with fail
  refine Calls.mono (H2.out.2.2.1 _) ?_
  rintro e w3 ⟨rfl, hb3⟩
  have hT3 := (hb3.block w2.heap.size (by simp only [sza]; omega)).trans (nw_heap _ _)
  have hb23 := (H2.out.2.2.2.2.2 _).trans (hb3.mono (by simp only [sza]; omega))
  have hb4 : ∀ o, Below w3.heap.size w3 (w3.alloc o) := fun o => (Below.refl _ _).alloc (Nat.le_refl _) o
  have hz3 := hb3.size
  simp only [sza] at hz3
  have hR4 := fun o => resolve_sc ((H2.out.1.below hb23).below (hb4 o)) ⟨#[113, 58, 98]⟩ (by decide)
  rw [k_r2] at hR4
  have H3 : Hid _ := And.intro hT3 (And.intro hb23 (And.intro hR4 hb4))
  clear hT3 hb23 hR4 hb4 hb3
  go_wp2_with fail
  refine Calls.mono (H3.out.2.2.1 _) ?_
  rintro e w5 ⟨rfl, hb5⟩
  have hb35 := (H3.out.2.2.2 _).trans (hb5.mono (by simp only [sza]; omega))
  have hN5 := (hb5.block w3.heap.size (by simp only [sza]; omega)).trans (nw_heap _ _)
  have hz5 := hb5.size
  simp only [sza] at hz5
  have hb6 : ∀ o, Below w5.heap.size w5 (w5.alloc o) := fun o => (Below.refl _ _).alloc (Nat.le_refl _) o
  have hT5 := (hb35.block _ (by omega)).trans H3.out.1
  have hb25 := H3.out.2.1.trans (hb35.mono (by omega))
  have g0 := fun o => ((hb6 o).cell (p := ⟨g, 0, none⟩) (by show g < _; omega)).trans ((hb25.cell (p := ⟨g, 0, none⟩) hgl).trans H2.out.2.2.2.1)
  have g1 := fun o => ((hb6 o).cell (p := ⟨g, 1, none⟩) (by show g < _; omega)).trans ((hb25.cell (p := ⟨g, 1, none⟩) hgl).trans H2.out.2.2.2.2.1)
  have t0 := fun o => (bl4 (((hb6 o).block _ (lt_of hT5)).trans hT5)).1
  have n0 := fun o => (fresh2 (((hb6 o).block _ (lt_of hN5)).trans hN5)).1
  have hS6 := fun o => (H2.out.1.below hb25).below (hb6 o)
  have hC := fun o => close_sc (hs := []) (hS6 o) (by intro _; decide) (by decide)
  have hq := fun a b c d W => eq37 a b c d W
  have hbW := fun o => (H2.out.2.1.trans ((hb25.trans ((hb6 o).mono (by omega))).mono (by omega)))
  have H5 : Hid _ := And.intro hC hbW
  clear hb35 hN5 hb6 hT5 hb25 hS6 hC hbW hb5
  go_wp2_with fail
  refine Calls.mono (H5.out.1 _) ?_
  rintro e w7 ⟨rfl, h', hp, hS7, hf7⟩
  have hC7 := close_nil hS7
  have hz7 := hf7.size
  have hbW := H5.out.2 (.cells #[.string ⟨#[]⟩, .string ⟨#[]⟩] 37)
  have hb7 : Below w.heap.size w w7 := hbW.trans ⟨hf7.os, hf7.tape, hf7.output, hf7.size, fun k hk => hf7.block k (by simp only [sza]; omega) (fun q => by have := hO2 k q; omega)⟩
  have H7 : Hid _ := And.intro hC7 hb7
  clear hC7 hb7 hbW hS7 hf7 hp
  go_wp2_with fail
  refine Calls.mono H7.out.1 ?_
  rintro e w8 ⟨rfl, rfl⟩
  go_wp2_with fail
  go_ret
  exact ⟨rfl, H7.out.2⟩
end Go.Proofs.Ytgidbmiahckleaa
