/- Joined: Rr1, Rr2. -/
import Derived.Test.YtijcbgjlofcdfaaRd1
import Derived.Test.YtijcbgjlofcdfaaPd1
import Derived.BigQuiet
namespace Go.Proofs.Ytijcbgjlofcdfaa
open Go.RowKit
set_option linter.unusedVariables false

/-- The reader's block: a text, a place, whether it is none. -/
def RdAt (w : World) (X : Nat) (s : ByteArray) (p : Nat) (b : Bool) : Prop := w.heap[X]? = some (.cells #[.string s, .int .i64 (p : Int), .bool b] 60 (0, 0))
theorem RdAt.cells {w : World} {X : Nat} {s : ByteArray} {p : Nat} {b : Bool} (h : RdAt w X s p b) : w.cell? ⟨X, 0, none⟩ = some (.string s) ∧ w.cell? ⟨X, 1, none⟩ = some (.int .i64 (p : Int)) ∧ w.cell? ⟨X, 2, none⟩ = some (.bool b) ∧ w.frozen? ⟨X, 0, none⟩ = false ∧ w.frozen? ⟨X, 1, none⟩ = false ∧ w.frozen? ⟨X, 2, none⟩ = false := by
  unfold RdAt at h
  refine ⟨?_, ?_, ?_, ?_, ?_, ?_⟩ <;> simp [World.cell?, World.frozen?, h]
theorem RdAt.drew {w : World} {X : Nat} {s : ByteArray} {p : Nat} {b : Bool} (h : RdAt w X s p b) (q : Nat) : RdAt (w.drewN q) X s p b := h
theorem RdAt.at {w : World} {X : Nat} {s : ByteArray} {p : Nat} {b : Bool} (h : RdAt w X s p b) (p' : Nat) : RdAt (w.setCell ⟨X, 1, none⟩ (.int .i64 (p' : Int))) X s p' b := by
  have := bset (i := 1) h (.int .i64 (p' : Int))
  simp only [List.setIfInBounds_toArray, List.set_cons_zero, List.set_cons_succ] at this
  exact this
theorem RdAt.bad {w : World} {X : Nat} {s : ByteArray} {p : Nat} {b : Bool} (h : RdAt w X s p b) (b' : Bool) : RdAt (w.setCell ⟨X, 2, none⟩ (.bool b')) X s p b' := by
  have := bset (i := 2) h (.bool b')
  simp only [List.setIfInBounds_toArray, List.set_cons_zero, List.set_cons_succ] at this
  exact this
/-- A byte stands here. -/
def isB (l : List Int) (p : Nat) (c : Int) : Bool := decide ((l.drop p).head? = some c)
theorem isB_no {s : ByteArray} {p : Nat} (h : s.size ≤ p) (c : Int) : isB (bl s) p c = false := by
  unfold isB
  rw [List.drop_eq_nil_of_le (by rw [bl_len]; exact h)]
  rfl
theorem isB_at {s : ByteArray} {p : Nat} (h : p < s.size) (c : Int) : isB (bl s) p c = (((s[p]'h).toNat : Int) == c) := by
  unfold isB
  rw [bl_drop s p h]
  rw [Bool.eq_iff_iff]
  simp
set_option maxHeartbeats 800000 in
theorem is_r (X : Nat) (s : ByteArray) (p : Nat) (b : Bool) (c : Int) (w : World) (hx : RdAt w X s p b) (hs : s.size ≤ maxLen) : Calls Try.prog 36 #[.pointer (some ⟨X, 0, none⟩), .int .u8 c] w fun e w' => e = .returned (.bool (isB (bl s) p c)) ∧ ∃ q, w' = w.drewN q := by
  unfold maxLen at hs
  obtain ⟨g0, g1, g2, _⟩ := hx.cells
  by_cases hlt : p < s.size
  · have hd : decide ((p : Int) < (s.size : Int)) = true := by simp; omega
    rw [isB_at hlt]
    go_enter Try.func36, Try.ntmps36
    go_wp2_with fail
    go_quiet (fail)
    go_wp2_with fail
    go_ret
    exact ⟨rfl, _, rfl⟩
  · have hd : decide ((p : Int) < (s.size : Int)) = false := by simp; omega
    rw [isB_no (by omega)]
    go_enter Try.func36, Try.ntmps36
    go_wp2_with fail
    go_quiet (fail)
    go_wp2_with fail
    go_ret
    exact ⟨rfl, _, rfl⟩
/-- What a step of the reader leaves: it moves on, or is bad; nothing else turns. -/
structure RP (X : Nat) (s : ByteArray) (b : Bool) (w w' : World) (p' : Nat) (b' : Bool) : Prop where
  x : RdAt w' X s p' b'
  le : p' ≤ s.size
  fr : Fro (fun i => i = X) w w'
  st : b = true → b' = true
theorem tk_is (s : ByteArray) (p : Nat) (c : Int) : tkB c ((bl s).drop p) = if isB (bl s) p c = true then some ((bl s).drop (p + 1)) else none := by
  unfold tkB isB
  simp only [decide_eq_true_eq]
  split
  · rw [List.tail_drop]
  · rfl
def TkP (X : Nat) (s : ByteArray) (p : Nat) (b : Bool) (c : Int) (w : World) (e : Ending) (w' : World) : Prop := ∃ p' b', e = .returned (.tuple #[]) ∧ RP X s b w w' p' b' ∧ (∀ r, tkB c ((bl s).drop p) = some r → b' = b ∧ r = (bl s).drop p') ∧ (tkB c ((bl s).drop p) = none → b' = true)
set_option maxHeartbeats 800000 in
theorem take_r (X : Nat) (s : ByteArray) (p : Nat) (b : Bool) (c : Int) (w : World) (hx : RdAt w X s p b) (hs : s.size ≤ maxLen) (hp : p ≤ s.size) : Calls Try.prog 30 #[.pointer (some ⟨X, 0, none⟩), .int .u8 c] w fun e w' => TkP X s p b c w e w' := by
  have q1 := is_r X s p b c w hx hs
  have ht := tk_is s p c
  unfold maxLen at hs
  have hpl : isB (bl s) p c = true → p < s.size := fun h => by
    rcases Nat.lt_or_ge p s.size with h1 | h1
    · exact h1
    · rw [isB_no h1] at h; exact absurd h (by simp)
  generalize hI : isB (bl s) p c = I at *
  clear hI
  have HX : Hid _ := And.intro hx (And.intro q1 (And.intro hpl ht))
  clear hx q1 hpl ht
  cases I
  · go_enter Try.func30, Try.ntmps30
    go_wp2_with fail
    refine Calls.mono HX.out.2.1 ?_
    rintro e w1 ⟨rfl, q, rfl⟩
    have hx1 := HX.out.1.drew q
    obtain ⟨g0, g1, g2, f0, f1, f2⟩ := hx1.cells
    have HY : Hid _ := hx1
    clear hx1
    go_wp2_with fail
    have hb := RdAt.bad (w := w.drewN q) (X := X) (s := s) (p := p) (b := b) HY.out true
    refine bodyPost_ret (v := .tuple #[]) (by simp [results, Try.results30, go_sem]) rfl ?_
    exact ⟨p, true, rfl, ⟨hb, hp, ((Fro.refl (fun i => i = X) w).drewN q).set (Or.inl rfl) _, fun _ => rfl⟩, fun r hr => by rw [HX.out.2.2.2] at hr; simp at hr, fun _ => rfl⟩
  · have hlt := HX.out.2.2.1 rfl
    go_enter Try.func30, Try.ntmps30
    go_wp2_with fail
    refine Calls.mono HX.out.2.1 ?_
    rintro e w1 ⟨rfl, q, rfl⟩
    have hx1 := HX.out.1.drew q
    obtain ⟨g0, g1, g2, f0, f1, f2⟩ := hx1.cells
    have HY : Hid _ := hx1
    clear hx1
    go_wp2_with fail
    have hb := RdAt.at (w := w.drewN q) (X := X) (s := s) (p := p) (b := b) HY.out (p + 1)
    refine bodyPost_end (v := .tuple #[]) (by simp [results, Try.results30, go_sem]) rfl ?_
    exact ⟨p + 1, b, rfl, ⟨hb, hlt, ((Fro.refl (fun i => i = X) w).drewN q).set (Or.inl rfl) _, fun h => h⟩, fun r hr => by rw [HX.out.2.2.2] at hr; simp at hr; exact ⟨rfl, hr.symm⟩, fun hr => by rw [HX.out.2.2.2] at hr; simp at hr⟩
end Go.Proofs.Ytijcbgjlofcdfaa
namespace Go.Proofs.Ytijcbgjlofcdfaa
open Go.RowKit
set_option linter.unusedVariables false

theorem dr_get (s : ByteArray) (p j : Nat) (h : p + j < s.size) (h' : j < ((bl s).drop p).length) : ((bl s).drop p)[j] = ((s[p + j]'h).toNat : Int) := by
  rw [List.getElem_drop, bl_get s (p + j) h (by rw [bl_len]; exact h)]
theorem drew2 (w : World) (a b : Nat) : (w.drewN a).drewN b = w.drewN (a + b) := by
  simp [World.drewN, Nat.add_comm, Nat.add_left_comm]
theorem dr_len (s : ByteArray) (p : Nat) : ((bl s).drop p).length = s.size - p := by rw [List.length_drop, bl_len]
set_option maxHeartbeats 2000000 in
theorem digits_r (X : Nat) (s : ByteArray) (p : Nat) (b : Bool) (w : World) (hx : RdAt w X s p b) (hs : s.size ≤ maxLen) (hp : p ≤ s.size) : Calls Try.prog 38 #[.pointer (some ⟨X, 0, none⟩)] w fun e w' => e = .returned (.int .i64 (dgs ((bl s).drop p) : Nat)) ∧ ∃ q, w' = w.drewN q := by
  unfold maxLen at hs
  have hK := dgs_len ((bl s).drop p)
  rw [dr_len] at hK
  have HG : Hid (∀ j, j < dgs ((bl s).drop p) → ∀ h : p + j < s.size, 48 ≤ ((s[p + j]'h).toNat : Int) ∧ ((s[p + j]'h).toNat : Int) ≤ 57) := (fun j hj h => by
    have := dgs_get ((bl s).drop p) j hj
    rw [dr_get s p j h] at this
    simpa [isD] using this : ∀ j, j < dgs ((bl s).drop p) → ∀ h : p + j < s.size, 48 ≤ ((s[p + j]'h).toNat : Int) ∧ ((s[p + j]'h).toNat : Int) ≤ 57)
  have HE : Hid (∀ h : p + dgs ((bl s).drop p) < s.size, ¬ (48 ≤ ((s[p + dgs ((bl s).drop p)]'h).toNat : Int) ∧ ((s[p + dgs ((bl s).drop p)]'h).toNat : Int) ≤ 57)) := (fun h => by
    have hl : dgs ((bl s).drop p) < ((bl s).drop p).length := by rw [dr_len]; omega
    have := dgs_stop ((bl s).drop p) hl
    rw [dr_get s p _ h] at this
    intro q
    simp [isD, q.1, q.2] at this : ∀ h : p + dgs ((bl s).drop p) < s.size, ¬ (48 ≤ ((s[p + dgs ((bl s).drop p)]'h).toNat : Int) ∧ ((s[p + dgs ((bl s).drop p)]'h).toNat : Int) ≤ 57))
  generalize dgs ((bl s).drop p) = K at *
  have HX : Hid _ := hx
  clear hx
  go_enter Try.func38, Try.ntmps38
  go_wp2_with fail
  go_loopg [3] K (fun g v3 wr => ∃ (n q : Nat), n + g = K ∧ v3 = .int .i64 (n : Int) ∧ wr = w.drewN q)
  case atStart => exact ⟨0, 0, by omega, rfl, rfl⟩
  case round =>
    obtain ⟨n, q, hn, rfl, rfl⟩ := hrel
    obtain ⟨g0, g1, g2, _⟩ := (RdAt.drew (w := w) (X := X) (s := s) (p := p) (b := b) HX.out q).cells
    obtain ⟨gg0, gg1, gg2, _⟩ := RdAt.cells (w := w) (X := X) (s := s) (p := p) (b := b) HX.out
    obtain ⟨P, hP⟩ : ∃ P : Nat, p + n = P := ⟨_, rfl⟩
    have hsum : (p : Int) + (n : Int) = (P : Int) := by omega
    have hwr : IntKind.i64.wrap ((p : Int) + (n : Int)) = (P : Int) := by rw [IntKind.wrap_i64]; omega
    have hP1 : P ≤ s.size := by omega
    by_cases hlt : n < K
    · obtain ⟨g, rfl⟩ : ∃ g, gk = g + 1 := ⟨gk - 1, by omega⟩
      have hps : P < s.size := by omega
      subst hP
      obtain ⟨c0, c1⟩ := HG.out n hlt hps
      generalize hQ : p + n = P at *
      have k1 : decide ((P : Int) < (s.size : Int)) = true := by simp; omega
      generalize hC : s[P] = C at *
      have k2 : decide ((48 : Int) ≤ (C.toNat : Int)) = true := by simp; omega
      have k3 : decide ((C.toNat : Int) ≤ (57 : Int)) = true := by simp; omega
      have HQ : Hid _ := And.intro hQ hn
      clear hQ hn
      go_wp2_with fail
      go_quiet (fail)
      go_wp2_with fail
      go_roundg g
      case measure => omega
      case rel => exact ⟨n + 1, _, by have := HQ.out.2; omega, by simp, rfl⟩
    · have hnK : n = K := by omega
      subst hnK
      subst hP
      have HE2 := HE.out
      clear hlt hn
      by_cases hps : p + n < s.size
      · have hq := HE2 hps
        generalize hQ : p + n = P at *
        have k1 : decide ((P : Int) < (s.size : Int)) = true := by simp; omega
        generalize hC : s[P] = C at *
        by_cases c0 : (48 : Int) ≤ (C.toNat : Int)
        · have k2 : decide ((48 : Int) ≤ (C.toNat : Int)) = true := by simp; omega
          have k3 : decide ((C.toNat : Int) ≤ (57 : Int)) = false := by simp; omega
          clear HE2 hq hQ
          go_wp2_with fail
          go_quiet (fail)
          go_wp2_with fail
          go_ret
          exact ⟨rfl, _, drew2 _ _ _⟩
        · have k2 : decide ((48 : Int) ≤ (C.toNat : Int)) = false := by simp; omega
          clear HE2 hq hQ
          go_wp2_with fail
          go_quiet (fail)
          go_wp2_with fail
          go_ret
          exact ⟨rfl, _, drew2 _ _ _⟩
      · generalize hQ : p + n = P at *
        have k1 : decide ((P : Int) < (s.size : Int)) = false := by simp; omega
        clear HE2 hQ
        go_wp2_with fail
        go_quiet (fail)
        go_wp2_with fail
        go_ret
        exact ⟨rfl, _, drew2 _ _ _⟩
end Go.Proofs.Ytijcbgjlofcdfaa
