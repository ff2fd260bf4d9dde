/- Joined: Rr3, Rr4. -/
import Derived.Test.YtijcbgjlofcdfaaJ11
namespace Go.Proofs.Ytijcbgjlofcdfaa
open Go.RowKit
set_option linter.unusedVariables false

/-- A number that is bad from the first on. -/
def NbP (X : Nat) (s : ByteArray) (p : Nat) (w : World) (e : Ending) (w' : World) : Prop := e = .returned (.int .i64 0) ∧ RP X s true w w' p true
set_option maxHeartbeats 800000 in
theorem number_bad (X : Nat) (s : ByteArray) (p : Nat) (n : Int) (w : World) (hx : RdAt w X s p true) (hp : p ≤ s.size) : Calls Try.prog 39 #[.pointer (some ⟨X, 0, none⟩), .int .i64 n] w fun e w' => NbP X s p w e w' := by
  obtain ⟨g0, g1, g2, f0, f1, f2⟩ := hx.cells
  have HX : Hid _ := hx
  clear hx
  go_enter Try.func39, Try.ntmps39
  go_wp2_with fail
  go_ret
  exact ⟨rfl, RdAt.bad (w := w) (X := X) (s := s) (p := p) (b := true) HX.out true, hp, (Fro.refl (fun i => i = X) w).set (Or.inl rfl) _, fun _ => rfl⟩
def NmP (X : Nat) (s : ByteArray) (p n : Nat) (w : World) (e : Ending) (w' : World) : Prop :=
  (dgs ((bl s).drop p) < n ∧ e = .returned (.int .i64 0) ∧ RP X s false w w' p true) ∨
  (n ≤ dgs ((bl s).drop p) ∧ e = .returned (.int .i64 (dvl (((bl s).drop p).take n))) ∧ RP X s false w w' (p + n) false)
set_option maxHeartbeats 2000000 in
theorem number_ok (X : Nat) (s : ByteArray) (p n : Nat) (w : World) (hx : RdAt w X s p false) (hs : s.size ≤ maxLen) (hp : p ≤ s.size) (hn : n ≤ 9) : Calls Try.prog 39 #[.pointer (some ⟨X, 0, none⟩), .int .i64 (n : Int)] w fun e w' => NmP X s p n w e w' := by
  have q1 := digits_r X s p false w hx hs hp
  have hK := dgs_len ((bl s).drop p)
  rw [dr_len] at hK
  have HG : Hid (∀ j, j < dgs ((bl s).drop p) → ∀ h : p + j < s.size, (48 ≤ ((s[p + j]'h).toNat : Int) ∧ ((s[p + j]'h).toNat : Int) ≤ 57) ∧ dvl (((bl s).drop p).take (j + 1)) = 10 * dvl (((bl s).drop p).take j) + (((s[p + j]'h).toNat : Int) - 48)) := (fun j hj h => by
    have hl : j < ((bl s).drop p).length := by rw [dr_len]; omega
    have := dgs_get ((bl s).drop p) j hj
    rw [dr_get s p j h] at this
    refine ⟨by simpa [isD] using this, ?_⟩
    rw [dvl_take hl, dr_get s p j h] : ∀ j, j < dgs ((bl s).drop p) → ∀ h : p + j < s.size, (48 ≤ ((s[p + j]'h).toNat : Int) ∧ ((s[p + j]'h).toNat : Int) ≤ 57) ∧ dvl (((bl s).drop p).take (j + 1)) = 10 * dvl (((bl s).drop p).take j) + (((s[p + j]'h).toNat : Int) - 48))
  have HV : Hid (∀ j, j ≤ dgs ((bl s).drop p) → j ≤ 9 → 0 ≤ dvl (((bl s).drop p).take j) ∧ dvl (((bl s).drop p).take j) < 1000000000) := (fun j hj h9 => dvl_bd hj h9 : ∀ j, j ≤ dgs ((bl s).drop p) → j ≤ 9 → 0 ≤ dvl (((bl s).drop p).take j) ∧ dvl (((bl s).drop p).take j) < 1000000000)
  unfold maxLen at hs
  obtain ⟨g0, g1, g2, f0, f1, f2⟩ := hx.cells
  have HX : Hid _ := And.intro hx q1
  clear hx q1
  obtain ⟨K, hKK⟩ : ∃ K, dgs ((bl s).drop p) = K := ⟨_, rfl⟩
  have HKK : Hid _ := hKK
  rw [hKK] at hK HX HG HV
  clear hKK
  by_cases hlt : K < n
  · have k1 : decide ((K : Int) < (n : Int)) = true := by simp; omega
    go_enter Try.func39, Try.ntmps39
    go_wp2_with fail
    refine Calls.mono HX.out.2 ?_
    rintro e w1 ⟨rfl, q, rfl⟩
    obtain ⟨g0, g1, g2, f0, f1, f2⟩ := RdAt.cells (w := w.drewN q) (X := X) (s := s) (p := p) (b := false) HX.out.1
    go_wp2_with fail
    go_ret
    exact .inl ⟨by rw [HKK.out]; exact hlt, rfl, RdAt.bad (w := w.drewN q) (X := X) (s := s) (p := p) (b := false) HX.out.1 true, hp, ((Fro.refl (fun i => i = X) w).drewN q).set (Or.inl rfl) _, fun _ => rfl⟩
  · have k1 : decide ((K : Int) < (n : Int)) = false := by simp; omega
    go_enter Try.func39, Try.ntmps39
    go_wp2_with fail
    refine Calls.mono HX.out.2 ?_
    rintro e w1 ⟨rfl, q, rfl⟩
    go_wp2_with fail
    clear g0 g1 g2 f0 f1 f2
    go_loopg [5, 6] n (fun g v5 v6 wr => ∃ (i : Nat) (V : Int), i + g = n ∧ v6 = .int .i64 (i : Int) ∧ v5 = .int .i64 V ∧ V = dvl (((bl s).drop p).take i) ∧ RdAt wr X s (p + i) false ∧ Fro (fun i => i = X) w wr)
    case atStart => exact ⟨0, 0, by omega, rfl, rfl, by simp [dvl], HX.out.1, (Fro.refl (fun i => i = X) w).drewN q⟩
    case round =>
      obtain ⟨i, V, hig, rfl, rfl, hV, hx, hfr⟩ := hrel
      have hVb := HV.out i (by omega) (by omega)
      rw [← hV] at hVb
      obtain ⟨hV0, hV1⟩ := hVb
      obtain ⟨g0, g1, g2, f0, f1, f2⟩ := hx.cells
      obtain ⟨P, hP⟩ : ∃ P : Nat, p + i = P := ⟨_, rfl⟩
      have HY : Hid _ := And.intro hx (And.intro hfr hV)
      clear hx hfr hV
      by_cases hin : i < n
      · obtain ⟨g, rfl⟩ : ∃ g, gk = g + 1 := ⟨gk - 1, by omega⟩
        have k2 : decide ((i : Int) < (n : Int)) = true := by simp; omega
        have hps : p + i < s.size := by omega
        obtain ⟨⟨c0, c1⟩, hnx⟩ := HG.out i (by omega) hps
        rw [← HY.out.2.2] at hnx
        generalize hC : s[p + i] = C at *
        rw [hP] at g1 hps
        have hC' : s[P]'hps = C := by subst hP; exact hC
        have HNX : Hid _ := And.intro hnx hP
        clear hnx hC hP
        have m1 : IntKind.i64.wrap (10 * V) = 10 * V := by rw [IntKind.wrap_i64]; omega
        have m2 : IntKind.u8.wrap ((C.toNat : Int) - 48) = (C.toNat : Int) - 48 := by rw [IntKind.wrap_u8]; omega
        have m3 : IntKind.i64.wrap ((C.toNat : Int) - 48) = (C.toNat : Int) - 48 := by rw [IntKind.wrap_i64]; omega
        have m4 : IntKind.i64.wrap (10 * V + ((C.toNat : Int) - 48)) = 10 * V + ((C.toNat : Int) - 48) := by rw [IntKind.wrap_i64]; omega
        go_wp2_with fail
        go_quiet (fail)
        obtain ⟨g0', g1', g2', f0', f1', f2'⟩ := RdAt.cells (w := wr.drewN nq) (X := X) (s := s) (p := p + i) (b := false) HY.out.1
        rw [HNX.out.2] at g1'
        go_wp2_with fail
        go_roundg g
        case measure => omega
        case rel =>
          refine ⟨i + 1, _, by omega, by simp, rfl, HNX.out.1.symm, ?_, (HY.out.2.1.drewN nq).set (Or.inl rfl) _⟩
          have hz := RdAt.at (w := wr.drewN nq) (X := X) (s := s) (p := p + i) (b := false) HY.out.1 (p + (i + 1))
          have e1 : ((p + (i + 1) : Nat) : Int) = (P : Int) + 1 := by have := HNX.out.2; omega
          unfold RdAt at hz ⊢
          rw [e1] at hz ⊢
          exact hz
      · obtain rfl : i = n := by omega
        have k2 : decide ((i : Int) < (i : Int)) = false := by simp
        go_wp2_with fail
        go_ret
        exact .inr ⟨by rw [HKK.out]; omega, ret_int HY.out.2.2, HY.out.1, by omega, HY.out.2.1, fun h => absurd h (by simp)⟩
end Go.Proofs.Ytijcbgjlofcdfaa
namespace Go.Proofs.Ytijcbgjlofcdfaa
open Go.RowKit
set_option linter.unusedVariables false

def InP (X : Nat) (s : ByteArray) (p : Nat) (b : Bool) (lo hi : Int) (w : World) (e : Ending) (w' : World) : Prop :=
  ∃ (p' : Nat) (b' : Bool) (v : Int), e = .returned (.int .i64 v) ∧ RP X s b w w' p' b' ∧ 0 ≤ v ∧ v < 100 ∧
    (b = false → (∀ x r, inB lo hi ((bl s).drop p) = some (x, r) → b' = false ∧ v = x ∧ r = (bl s).drop p') ∧ (inB lo hi ((bl s).drop p) = none → b' = true))
theorem RP.bad {X : Nat} {s : ByteArray} {b : Bool} {w w' : World} {p' : Nat} {b' : Bool} (h : RP X s b w w' p' b') : RP X s b w (w'.setCell ⟨X, 2, none⟩ (.bool true)) p' true :=
  ⟨RdAt.bad h.x true, h.le, h.fr.set (Or.inl rfl) _, fun _ => rfl⟩
set_option maxHeartbeats 800000 in
theorem in_r (X : Nat) (s : ByteArray) (p : Nat) (b : Bool) (lo hi : Int) (w : World) (hx : RdAt w X s p b) (hs : s.size ≤ maxLen) (hp : p ≤ s.size) : Calls Try.prog 31 #[.pointer (some ⟨X, 0, none⟩), .int .i64 lo, .int .i64 hi] w fun e w' => InP X s p b lo hi w e w' := by
  cases b
  · have q1 := number_ok X s p 2 w hx hs hp (by omega)
    have HQ : Hid _ := q1
    clear q1 hx
    go_enter Try.func31, Try.ntmps31
    go_wp2_with fail
    refine Calls.mono HQ.out ?_
    rintro e w1 (⟨hd, rfl, hr⟩ | ⟨hd, rfl, hr⟩)
    · have hnone : inB lo hi ((bl s).drop p) = none := by unfold inB nmB; rw [if_pos hd]; rfl
      obtain ⟨g0, g1, g2, f0, f1, f2⟩ := hr.x.cells
      have HR : Hid _ := And.intro hr hnone
      clear hr hnone hd
      cases d1 : decide (0 < lo)
      · cases d2 : decide (hi < 0)
        · go_wp2_with fail
          go_ret
          exact ⟨p, true, 0, rfl, HR.out.1, by omega, by omega, fun _ => ⟨fun x r h => by rw [HR.out.2] at h; simp at h, fun _ => rfl⟩⟩
        · go_wp2_with fail
          go_ret
          exact ⟨p, true, 0, rfl, HR.out.1.bad, by omega, by omega, fun _ => ⟨fun x r h => by rw [HR.out.2] at h; simp at h, fun _ => rfl⟩⟩
      · go_wp2_with fail
        go_ret
        exact ⟨p, true, 0, rfl, HR.out.1.bad, by omega, by omega, fun _ => ⟨fun x r h => by rw [HR.out.2] at h; simp at h, fun _ => rfl⟩⟩
    · have hv := nm_in (n := 2) (l := (bl s).drop p) (x := (dvl (((bl s).drop p).take 2), ((bl s).drop p).drop 2)) (by unfold nmB; rw [if_neg (by omega)])
      have hin : inB lo hi ((bl s).drop p) = if dvl (((bl s).drop p).take 2) < lo ∨ hi < dvl (((bl s).drop p).take 2) then none else some (dvl (((bl s).drop p).take 2), (bl s).drop (p + 2)) := by
        unfold inB nmB
        rw [if_neg (by omega), Option.bind_some, List.drop_drop]
      dsimp only at hv
      generalize dvl (((bl s).drop p).take 2) = v at *
      obtain ⟨hv0, hv1⟩ := hv
      have hv2 : v < 100 := by simpa using hv1
      obtain ⟨g0, g1, g2, f0, f1, f2⟩ := hr.x.cells
      have HR : Hid _ := And.intro hr hin
      clear hr hin hd hv1
      by_cases e1 : v < lo
      · have d1 : decide (v < lo) = true := by simpa using e1
        have hno : inB lo hi ((bl s).drop p) = none := by rw [HR.out.2, if_pos (.inl e1)]
        have HN : Hid _ := hno
        clear hno
        go_wp2_with fail
        go_ret
        exact ⟨p + 2, true, v, rfl, HR.out.1.bad, hv0, hv2, fun _ => ⟨fun x r h => by rw [HN.out] at h; simp at h, fun _ => rfl⟩⟩
      · have d1 : decide (v < lo) = false := by simpa using e1
        by_cases e2 : hi < v
        · have d2 : decide (hi < v) = true := by simpa using e2
          have hno : inB lo hi ((bl s).drop p) = none := by rw [HR.out.2, if_pos (.inr e2)]
          have HN : Hid _ := hno
          clear hno
          go_wp2_with fail
          go_ret
          exact ⟨p + 2, true, v, rfl, HR.out.1.bad, hv0, hv2, fun _ => ⟨fun x r h => by rw [HN.out] at h; simp at h, fun _ => rfl⟩⟩
        · have d2 : decide (hi < v) = false := by simpa using e2
          have hno : inB lo hi ((bl s).drop p) = some (v, (bl s).drop (p + 2)) := by rw [HR.out.2, if_neg (by omega)]
          have HN : Hid _ := hno
          clear hno
          go_wp2_with fail
          go_ret
          exact ⟨p + 2, false, v, rfl, HR.out.1, hv0, hv2, fun _ => ⟨fun x r h => by rw [HN.out] at h; simp at h; exact ⟨rfl, h.1, h.2.symm⟩, fun h => by rw [HN.out] at h; simp at h⟩⟩
  · have q1 := number_bad X s p 2 w hx hp
    have HQ : Hid _ := q1
    clear q1 hx
    go_enter Try.func31, Try.ntmps31
    go_wp2_with fail
    refine Calls.mono HQ.out ?_
    rintro e w1 ⟨rfl, hr⟩
    obtain ⟨g0, g1, g2, f0, f1, f2⟩ := hr.x.cells
    have HR : Hid _ := hr
    clear hr
    cases d1 : decide (0 < lo)
    · cases d2 : decide (hi < 0)
      · go_wp2_with fail
        go_ret
        exact ⟨p, true, 0, rfl, HR.out, by omega, by omega, fun h => absurd h (by simp)⟩
      · go_wp2_with fail
        go_ret
        exact ⟨p, true, 0, rfl, HR.out.bad, by omega, by omega, fun h => absurd h (by simp)⟩
    · go_wp2_with fail
      go_ret
      exact ⟨p, true, 0, rfl, HR.out.bad, by omega, by omega, fun h => absurd h (by simp)⟩
end Go.Proofs.Ytijcbgjlofcdfaa
