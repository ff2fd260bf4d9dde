/- Whether an attribute may bind what it binds. -/
import Derived.Test.YtgidbmiahckleaaNs3
namespace Go.Proofs.Ytgidbmiahckleaa
open Go.RowKit
set_option linter.unusedVariables false

abbrev xnL : List UInt8 := [120, 109, 108, 110, 115]
abbrev xmL : List UInt8 := [120, 109, 108]
abbrev XML_L : List UInt8 := [104, 116, 116, 112, 58, 47, 47, 119, 119, 119, 46, 119, 51, 46, 111, 114, 103, 47, 88, 77, 76, 47, 49, 57, 57, 56, 47, 110, 97, 109, 101, 115, 112, 97, 99, 101]
abbrev XNS_L : List UInt8 := [104, 116, 116, 112, 58, 47, 47, 119, 119, 119, 46, 119, 51, 46, 111, 114, 103, 47, 50, 48, 48, 48, 47, 120, 109, 108, 110, 115, 47]
def mayC (bi d nc x2 x3 x4 x5 x6 : Bool) : Bool := if bi = false then true else if (!d && !nc) = true then false else if x2 = true then false else if x3 = true then x4 else if x4 = true then false else if x5 = true then false else d || !x6
def mayS (nm val : ByteArray) : Bool := mayC (bindS nm).2 (nm.toList == xnL) (ncB (bl (bindS nm).1)) ((bindS nm).1.toList == xnL) ((bindS nm).1.toList == xmL) (val.toList == XML_L) (val.toList == XNS_L) (val.toList == [])
theorem bind_size (nm : ByteArray) : (bindS nm).1.size ≤ nm.size := by
  unfold bindS cpS
  split
  · exact Nat.zero_le _
  · split
    · simp
    · exact Nat.le_refl _
theorem bl3 {w2 : World} {X : Nat} {x y z : Value} {t : TypeId} (hblk : w2.heap[X]? = some (.cells #[x, y, z] t (0, 0))) : w2.cell? ⟨X, 0, none⟩ = some x ∧ w2.cell? ⟨X, 1, none⟩ = some y ∧ w2.cell? ⟨X, 2, none⟩ = some z := by
  refine ⟨?_, ?_, ?_⟩ <;> simp [World.cell?, hblk]
set_option maxRecDepth 100000 in
set_option maxHeartbeats 1600000 in
theorem maybind_s (nm val : ByteArray) (pl : Int) (w : World) (hs : nm.size ≤ maxLen) : Calls Try.prog 26 #[.agg #[.string nm, .string val, .int .i64 pl]] w fun e w' => e = .returned (.bool (mayS nm val)) ∧ Below w.heap.size w w' := by
  have hb0 : Below w.heap.size w (w.alloc (.cells #[.string nm, .string val, .int .i64 pl] 72)) := (Below.refl _ _).alloc (Nat.le_refl _) _
  have hz0 : (w.alloc (.cells #[.string nm, .string val, .int .i64 pl] 72)).heap.size = w.heap.size + 1 := by simp
  have hnw := nw_heap w (.cells #[.string nm, .string val, .int .i64 pl] 72)
  have HB := fun W => binding_s nm W hs
  have HN := fun W => nc_any (bindS nm).1 W (Nat.le_trans (bind_size nm) hs)
  have hM : mayS nm val = mayC (bindS nm).2 (nm.toList == xnL) (ncB (bl (bindS nm).1)) ((bindS nm).1.toList == xnL) ((bindS nm).1.toList == xmL) (val.toList == XML_L) (val.toList == XNS_L) (val.toList == []) := rfl
  generalize mayS nm val = M at *
  generalize bindS nm = q at *
  obtain ⟨p, bi⟩ := q
  dsimp only at *
  generalize ncB (bl p) = nc at *
  generalize hd : (nm.toList == xnL) = d at *
  generalize h2 : (p.toList == xnL) = x2 at *
  generalize h3 : (p.toList == xmL) = x3 at *
  generalize h4 : (val.toList == XML_L) = x4 at *
  generalize h5 : (val.toList == XNS_L) = x5 at *
  generalize h6 : (val.toList == []) = x6 at *
  have HH : Hid _ := And.intro hb0 (And.intro hnw (And.intro HB (And.intro HN hM)))
  clear hb0 hnw HB HN hM
  cases bi
  · clear hd h2 h3 h4 h5 h6
    go_enter Try.func26, Try.ntmps26
    go_wp2_with (first | (go_at_call 37; refine Calls.mono (HH.out.2.2.1 _) ?_; rintro e w' ⟨rfl, rfl⟩))
    go_ret
    exact ⟨by rw [HH.out.2.2.2.2]; rfl, HH.out.1⟩
  cases d
  · have hd' : ¬ nm.toList = xnL := by simpa using hd
    have H6 : Hid _ := And.intro h2 (And.intro h3 (And.intro h4 (And.intro h5 h6)))
    clear h2 h3 h4 h5 h6
    go_enter Try.func26, Try.ntmps26
    go_wp2_with (first | (go_at_call 37; refine Calls.mono (HH.out.2.2.1 _) ?_; rintro e w' ⟨rfl, rfl⟩))
    refine Calls.mono (HH.out.2.2.2.1 _) ?_
    rintro e w2 ⟨rfl, hb2⟩
    have hblk : w2.heap[w.heap.size]? = some (.cells #[.string nm, .string val, .int .i64 pl] 72 (0, 0)) := (hb2.block _ (by rw [hz0]; omega)).trans HH.out.2.1
    have hbw2 : Below w.heap.size w w2 := HH.out.1.trans (hb2.mono (by omega))
    obtain ⟨c0, c1, c2⟩ := bl3 hblk
    have H2 : Hid _ := hbw2
    clear hb2 hblk hbw2
    cases nc
    · go_wp2_with fail
      go_ret
      exact ⟨by rw [HH.out.2.2.2.2]; rfl, H2.out⟩
    · obtain ⟨h2, h3, h4, h5, h6⟩ := H6.out
      clear H6
      cases x2
      · have h2' : ¬ p.toList = xnL := by simpa using h2
        cases x3
        · have h3' : ¬ p.toList = xmL := by simpa using h3
          cases x4
          · have h4' : ¬ val.toList = XML_L := by simpa using h4
            cases x5
            · have h5' : ¬ val.toList = XNS_L := by simpa using h5
              cases x6
              · have h6' : ¬ val.toList = ([] : List UInt8) := by simpa using h6
                go_wp2_with fail
                go_ret
                exact ⟨by rw [HH.out.2.2.2.2]; first | rfl | simp [mayC, h6'], H2.out⟩
              · have h6' : val.toList = ([] : List UInt8) := by simpa using h6
                go_wp2_with fail
                go_ret
                exact ⟨by rw [HH.out.2.2.2.2]; first | rfl | simp [mayC, h6'], H2.out⟩
            · have h5' : val.toList = XNS_L := by simpa using h5
              go_wp2_with fail
              go_ret
              exact ⟨by rw [HH.out.2.2.2.2]; first | rfl | simp [mayC], H2.out⟩
          · have h4' : val.toList = XML_L := by simpa using h4
            go_wp2_with fail
            go_ret
            exact ⟨by rw [HH.out.2.2.2.2]; first | rfl | simp [mayC], H2.out⟩
        · have h3' : p.toList = xmL := by simpa using h3
          go_wp2_with fail
          go_ret
          exact ⟨by rw [HH.out.2.2.2.2]; rw [← h4]; first | rfl | simp [mayC], H2.out⟩
      · have h2' : p.toList = xnL := by simpa using h2
        go_wp2_with fail
        go_ret
        exact ⟨by rw [HH.out.2.2.2.2]; first | rfl | simp [mayC], H2.out⟩
  · have hd' : nm.toList = xnL := by simpa using hd
    cases x2
    · have h2' : ¬ p.toList = xnL := by simpa using h2
      cases x3
      · have h3' : ¬ p.toList = xmL := by simpa using h3
        cases x4
        · have h4' : ¬ val.toList = XML_L := by simpa using h4
          cases x5
          · have h5' : ¬ val.toList = XNS_L := by simpa using h5
            cases x6
            · have h6' : ¬ val.toList = ([] : List UInt8) := by simpa using h6
              go_enter Try.func26, Try.ntmps26
              go_wp2_with (first | (go_at_call 37; refine Calls.mono (HH.out.2.2.1 _) ?_; rintro e w' ⟨rfl, rfl⟩))
              go_ret
              exact ⟨by rw [HH.out.2.2.2.2]; first | rfl | simp [mayC, h6'], HH.out.1⟩
            · have h6' : val.toList = ([] : List UInt8) := by simpa using h6
              go_enter Try.func26, Try.ntmps26
              go_wp2_with (first | (go_at_call 37; refine Calls.mono (HH.out.2.2.1 _) ?_; rintro e w' ⟨rfl, rfl⟩))
              go_ret
              exact ⟨by rw [HH.out.2.2.2.2]; first | rfl | simp [mayC, h6'], HH.out.1⟩
          · have h5' : val.toList = XNS_L := by simpa using h5
            go_enter Try.func26, Try.ntmps26
            go_wp2_with (first | (go_at_call 37; refine Calls.mono (HH.out.2.2.1 _) ?_; rintro e w' ⟨rfl, rfl⟩))
            go_ret
            exact ⟨by rw [HH.out.2.2.2.2]; first | rfl | simp [mayC], HH.out.1⟩
        · have h4' : val.toList = XML_L := by simpa using h4
          go_enter Try.func26, Try.ntmps26
          go_wp2_with (first | (go_at_call 37; refine Calls.mono (HH.out.2.2.1 _) ?_; rintro e w' ⟨rfl, rfl⟩))
          go_ret
          exact ⟨by rw [HH.out.2.2.2.2]; first | rfl | simp [mayC], HH.out.1⟩
      · have h3' : p.toList = xmL := by simpa using h3
        go_enter Try.func26, Try.ntmps26
        go_wp2_with (first | (go_at_call 37; refine Calls.mono (HH.out.2.2.1 _) ?_; rintro e w' ⟨rfl, rfl⟩))
        go_ret
        exact ⟨by rw [HH.out.2.2.2.2]; rw [← h4]; first | rfl | simp [mayC], HH.out.1⟩
    · have h2' : p.toList = xnL := by simpa using h2
      go_enter Try.func26, Try.ntmps26
      go_wp2_with (first | (go_at_call 37; refine Calls.mono (HH.out.2.2.1 _) ?_; rintro e w' ⟨rfl, rfl⟩))
      go_ret
      exact ⟨by rw [HH.out.2.2.2.2]; first | rfl | simp [mayC], HH.out.1⟩
end Go.Proofs.Ytgidbmiahckleaa
