/- The program: side, Size. -/
import Derived.Test.YthlkbijpphdblaaMm
namespace Go.Proofs.Ythlkbijpphdblaa
open Go.RowKit
set_option linter.unusedVariables false

abbrev rV (r : Rg) : Value := .agg #[.int .i32 r.1, .int .i32 r.2]
/-- A range within the letters. -/
theorem side_p (r : Rg) (x : Int) (w : World) : Calls Try.prog 28 #[rV r, .int .i32 x] w fun e w' => e = .returned (.int .i64 (if r.2 < x then -1 else if x < r.1 then 1 else 0)) ∧ Below w.heap.size w w' := by
  by_cases h1 : r.2 < x
  · rw [if_pos h1]
    go_enter Try.func28, Try.ntmps28
    go_wp2
    go_ret
    exact ⟨rfl, (Below.refl _ _).alloc (Nat.le_refl _) _⟩
  · rw [if_neg h1]
    by_cases h2 : x < r.1
    · rw [if_pos h2]
      go_enter Try.func28, Try.ntmps28
      go_wp2
      go_ret
      exact ⟨rfl, (Below.refl _ _).alloc (Nat.le_refl _) _⟩
    · rw [if_neg h2]
      go_enter Try.func28, Try.ntmps28
      go_wp2
      go_ret
      exact ⟨rfl, (Below.refl _ _).alloc (Nat.le_refl _) _⟩
set_option maxHeartbeats 800000 in
theorem size_p (v : Value) (l : List Rg) (w : World) (h : Sl .i32 w v l) (hc : Cn l) (hn : l.length ≤ 1000000) : Calls Try.prog 12 #[v] w fun e w' => e = .returned (.int .i64 (sz l)) ∧ Below w.heap.size w w' := by
  obtain ⟨a, cap, rfl, hcap, h⟩ := h
  have HX : Hid _ := And.intro h hc
  clear h hc
  go_enter Try.func12, Try.ntmps12
  go_wp2_with fail
  go_loopg [3, 8] l.length (fun g v3 v8 wr => ∃ k : Nat, k + g = l.length ∧ v8 = .int .i64 (k : Int) ∧ v3 = .int .i64 (sz (l.take k)) ∧ Below w.heap.size w wr)
  case atStart => exact ⟨0, by omega, rfl, rfl, Below.refl _ _⟩
  case round =>
    obtain ⟨k, hk, rfl, rfl, hb⟩ := hrel
    have HB : Hid _ := hb
    clear hb
    by_cases hlt : k < l.length
    · obtain ⟨g, rfl⟩ : ∃ g, gk = g + 1 := ⟨gk - 1, by omega⟩
      rcases HX.out.1 with hx | ⟨b, off, rfl, hbl, hx⟩
      · rw [hx] at hlt; simp at hlt
      obtain ⟨c0, c1⟩ := hx k hlt
      have e0 := (HB.out.cell (p := ⟨b, off + k * 2, none⟩) hbl).trans c0
      have e1 := (HB.out.cell (p := ⟨b, off + k * 2 + 1, none⟩) hbl).trans c1
      have hs := sz_in (HX.out.2.take k)
      have hok := HX.out.2.ok l[k] (by simp)
      have HS : Hid _ := (by rw [take_snoc hlt, sz_snoc] : sz (l.take (k + 1)) = sz (l.take k) + (l[k].2 - l[k].1 + 1))
      generalize l[k] = r at *
      obtain ⟨r0, r1⟩ := r
      dsimp only at *
      obtain ⟨hs0, hs1⟩ := hs
      generalize sz (l.take k) = S at *
      clear c0 c1 hx
      have hM : MX = 1114111 := rfl
      obtain ⟨o1, o2, o3⟩ := hok
      have o3' : r1 ≤ 1114111 := o3
      clear hM o3
      go_wp2_with fail
      go_roundg g
      case measure => omega
      case rel => exact ⟨k + 1, by omega, by simp, by rw [HS.out], HB.out.alloc HB.out.size _⟩
    · have hkl : k = l.length := by omega
      subst hkl
      go_wp2_with fail
      go_ret
      exact ⟨by rw [List.take_length]; rfl, HB.out⟩
end Go.Proofs.Ythlkbijpphdblaa
