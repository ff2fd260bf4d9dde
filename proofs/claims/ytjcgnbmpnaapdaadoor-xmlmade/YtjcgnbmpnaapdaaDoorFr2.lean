/- The statement's own Same, at one event. -/
import Derived.Test.YtjcgnbmpnaapdaaDoorFr1
namespace Go.Proofs.YtjcgnbmpnaapdaaDoor
open Go.RowKit
set_option linter.unusedVariables false

/-- One event's five cells. -/
structure E5 (w : World) (A : Addr) (k p : Int) (nm tx : ByteArray) (sv : Value) : Prop where
  c0 : w.cell? A = some (.int .i64 k)
  c1 : w.cell? (A.add 1) = some (.int .i64 p)
  c2 : w.cell? (A.add 2) = some (.string nm)
  c3 : w.cell? (A.add 3) = some (.string tx)
  c4 : w.cell? (A.add 4) = some sv
set_option maxRecDepth 100000 in
set_option maxHeartbeats 6400000 in
theorem same_s {w : World} {ga oa ca gb cb : Nat} {k p : Int} {nm tx : ByteArray} {sa sb_ : Value} {l : List At}
    (a0 : w.cell? ⟨ga, oa, none⟩ = some (.int .i64 k)) (a1 : w.cell? ⟨ga, oa + 1, none⟩ = some (.int .i64 p)) (a2 : w.cell? ⟨ga, oa + 2, none⟩ = some (.string nm)) (a3 : w.cell? ⟨ga, oa + 3, none⟩ = some (.string tx)) (a4 : w.cell? ⟨ga, oa + 4, none⟩ = some sa)
    (b0 : w.cell? ⟨gb, 0, none⟩ = some (.int .i64 k)) (b1 : w.cell? ⟨gb, 1, none⟩ = some (.int .i64 p)) (b2 : w.cell? ⟨gb, 2, none⟩ = some (.string nm)) (b3 : w.cell? ⟨gb, 3, none⟩ = some (.string tx)) (b4 : w.cell? ⟨gb, 4, none⟩ = some sb_)
    (hA : AC w sa l) (hB : AC w sb_ l) (hl : l.length ≤ 64) :
    Calls Tryd.prog 14 #[.slice (some ⟨ga, oa, none⟩) 1 ca, .slice (some ⟨gb, 0, none⟩) 1 cb] w fun e w' => e = .returned (.bool true) ∧ ∃ m, w' = w.drewN m := by
  obtain ⟨xa, xc, rfl, hx1, hx2, hxc⟩ := hA.f
  obtain ⟨ya, yc, rfl, hy1, hy2, hyc⟩ := hB.f
  unfold maxLen at hx2 hy2
  have HC : Hid _ := And.intro hxc hyc
  clear hA hB hxc hyc
  go_enter Tryd.func14, Tryd.ntmps14
  go_wp2_with fail
  go_loopg [5] 1 (fun m v5 wr => ∃ (i : Nat) (q : Nat), v5 = .int .i64 i ∧ i + m = 1 ∧ wr = w.drewN q)
  case atStart => exact ⟨0, 0, rfl, rfl, rfl⟩
  case round =>
    obtain ⟨i, q, rfl, him, rfl⟩ := hrel
    by_cases hi : i = 0
    · subst hi
      obtain rfl : gk = 1 := by omega
      go_wp2_with fail
      go_quiet (fail)
      go_wp2_with fail
      go_loopg [6] l.length (fun m v6 wr => ∃ (j : Nat) (q : Nat), v6 = .int .i64 j ∧ j + m = l.length ∧ wr = w.drewN q)
      case atStart => exact ⟨0, q + nq, rfl, by omega, by simp⟩
      case round =>
        obtain ⟨j, q, rfl, hjm, rfl⟩ := hrel
        by_cases hj : j < l.length
        · obtain ⟨m, rfl⟩ : ∃ m, gk = m + 1 := ⟨gk - 1, by omega⟩
          have hnil : l ≠ [] := by rintro rfl; simp at hj
          obtain ⟨g1, rfl, hc1⟩ := HC.out.1 hnil
          obtain ⟨g2, rfl, hc2⟩ := HC.out.2 hnil
          obtain ⟨x, hx⟩ : ∃ x, l[j]? = some x := ⟨_, List.getElem?_eq_getElem hj⟩
          have p0 := (hc1 j x hx).1
          have p1 := (hc1 j x hx).2.1
          have p2 := (hc1 j x hx).2.2
          have r0 := (hc2 j x hx).1
          have r1 := (hc2 j x hx).2.1
          have r2 := (hc2 j x hx).2.2
          have hjI : (j : Int) < (l.length : Int) := by omega
          have hj0 : (0 : Int) ≤ (j : Int) := by omega
          clear hc1 hc2 hx hnil
          go_wp2_with fail
          go_quiet (fail)
          go_wp2_with fail
          go_roundg m
          case measure => omega
          case rel => exact ⟨j + 1, _, by simp, by omega, rfl⟩
        · go_wp2_with fail
          go_roundg 0
          case measure => omega
          case rel => exact ⟨1, _, by simp, rfl, rfl⟩
    · obtain rfl : i = 1 := by omega
      go_wp2_with fail
      go_ret
      exact ⟨rfl, _, rfl⟩
end Go.Proofs.YtjcgnbmpnaapdaaDoor
