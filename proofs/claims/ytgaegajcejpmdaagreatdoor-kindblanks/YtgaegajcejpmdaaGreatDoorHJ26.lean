/- Joined: HDtPd1, HDtPd2, HDtPd3. -/
import Derived.Test.YtgaegajcejpmdaaGreatDoorHJ25
import Derived.LoopN
namespace Go.Proofs.YtgaegajcejpmdaaGreatDoor.Dt
open Go.RowKit
set_option linter.unusedVariables false

/-- A moment, a span as values. -/
abbrev moV (a : Mo) : Value := .agg #[.int .i64 a.k, .int .i64 a.y, .int .i64 a.m, .int .i64 a.d, .int .i64 a.s, .int .i64 a.n, .bool a.hz, .int .i64 a.z]
abbrev spV (p : Sp) : Value := .agg #[.int .i64 p.o, .int .i64 p.s, .int .i64 p.n]
/-- Numbers of no great size. -/
structure MoB (a : Mo) : Prop where
  y0 : -10000000000 < a.y
  y1 : a.y < 10000000000
  m0 : -10000000000 < a.m
  m1 : a.m < 10000000000
  d0 : -10000000000 < a.d
  d1 : a.d < 10000000000
  s0 : -100000000000000 < a.s
  s1 : a.s < 100000000000000
  n0 : -10000000000 < a.n
  n1 : a.n < 10000000000
structure SpB (p : Sp) : Prop where
  o0 : -1000000000000 < p.o
  o1 : p.o < 1000000000000
  s0 : -10000000000000000 < p.s
  s1 : p.s < 10000000000000000
  n0 : -10000000000000000 < p.n
  n1 : p.n < 10000000000000000
abbrev moC (a : Mo) : Array Value := #[.int .i64 a.k, .int .i64 a.y, .int .i64 a.m, .int .i64 a.d, .int .i64 a.s, .int .i64 a.n, .bool a.hz, .int .i64 a.z]
abbrev mo0 : Array Value := #[.int .i64 0, .int .i64 0, .int .i64 0, .int .i64 0, .int .i64 0, .int .i64 0, .bool false, .int .i64 0]
/-- Three boxes side by side. -/
theorem box3 (w : World) (A B C : Obj) : (((w.alloc A).alloc B).alloc C).heap[w.heap.size]? = some A ∧ (((w.alloc A).alloc B).alloc C).heap[w.heap.size + 1]? = some B ∧ (((w.alloc A).alloc B).alloc C).heap[w.heap.size + 2]? = some C ∧ Below w.heap.size w (((w.alloc A).alloc B).alloc C) := by
  have hA := nw_heap w A
  have hB := nw_heap (w.alloc A) B
  have hC := nw_heap ((w.alloc A).alloc B) C
  have b1 : Below (w.alloc A).heap.size (w.alloc A) ((w.alloc A).alloc B) := (Below.refl _ _).alloc (Nat.le_refl _) _
  have b2 : Below ((w.alloc A).alloc B).heap.size ((w.alloc A).alloc B) (((w.alloc A).alloc B).alloc C) := (Below.refl _ _).alloc (Nat.le_refl _) _
  rw [sza] at hB
  rw [sza, sza] at hC
  refine ⟨(b2.block _ (by simp; omega)).trans ((b1.block _ (by simp)).trans hA), (b2.block _ (by simp)).trans hB, hC, ?_⟩
  exact (((Below.refl _ _).alloc (Nat.le_refl _) _).alloc (by simp) _).alloc (by simp; omega) _
/-- Two boxes and a result's place. -/
structure AB (w U : World) (c p z : Array Value) (t u v : TypeId) : Prop where
  x1 : U.heap[w.heap.size]? = some (.cells c t (0, 0))
  x2 : U.heap[w.heap.size + 1]? = some (.cells p u (0, 0))
  x3 : U.heap[w.heap.size + 2]? = some (.cells z v (0, 0))
  hb : Below w.heap.size w U
theorem AB.init (w : World) (c p z : Array Value) (t u v : TypeId) : AB w (((w.alloc (.cells c t)).alloc (.cells p u)).alloc (.cells z v)) c p z t u v := by
  obtain ⟨a, b, d, e⟩ := box3 w (.cells c t) (.cells p u) (.cells z v)
  exact ⟨a, b, d, e⟩
theorem AB.drew {w U : World} {c p z : Array Value} {t u v : TypeId} (h : AB w U c p z t u v) (q : Nat) : AB w (U.drewN q) c p z t u v := ⟨h.x1, h.x2, h.x3, bdrewN h.hb q⟩
theorem AB.set {w U : World} {c p z : Array Value} {t u v : TypeId} (h : AB w U c p z t u v) (i : Nat) (x : Value) : AB w (U.setCell ⟨w.heap.size, i, none⟩ x) (c.setIfInBounds i x) p z t u v :=
  ⟨bset h.x1 x, (Below.heap_setCell _ _ _ _ (by simp)).trans h.x2, (Below.heap_setCell _ _ _ _ (by simp)).trans h.x3, h.hb.setCell (p := ⟨w.heap.size, i, none⟩) (Nat.le_refl _) x⟩
theorem AB.below {w U U' : World} {c p z : Array Value} {t u v : TypeId} (h : AB w U c p z t u v) (hb : Below U.heap.size U U') : AB w U' c p z t u v :=
  ⟨(hb.block _ (lt_of h.x1)).trans h.x1, (hb.block _ (lt_of h.x2)).trans h.x2, (hb.block _ (lt_of h.x3)).trans h.x3, h.hb.trans (hb.mono h.hb.size)⟩
theorem AB.ex {w U : World} {c p z : Array Value} {t u v : TypeId} (h : AB w U c p z t u v) : ∃ U', U = U' ∧ AB w U' c p z t u v := ⟨U, rfl, h⟩
theorem blk8 {U : World} {X : Nat} {a b c d e f g h : Value} {t : TypeId} (hx : U.heap[X]? = some (.cells #[a, b, c, d, e, f, g, h] t (0, 0))) : (U.cell? ⟨X, 0, none⟩ = some a ∧ U.cell? ⟨X, 1, none⟩ = some b ∧ U.cell? ⟨X, 2, none⟩ = some c ∧ U.cell? ⟨X, 3, none⟩ = some d ∧ U.cell? ⟨X, 4, none⟩ = some e ∧ U.cell? ⟨X, 5, none⟩ = some f ∧ U.cell? ⟨X, 6, none⟩ = some g ∧ U.cell? ⟨X, 7, none⟩ = some h) ∧ U.frozen? ⟨X, 0, none⟩ = false ∧ U.frozen? ⟨X, 1, none⟩ = false ∧ U.frozen? ⟨X, 2, none⟩ = false ∧ U.frozen? ⟨X, 3, none⟩ = false ∧ U.frozen? ⟨X, 4, none⟩ = false ∧ U.frozen? ⟨X, 5, none⟩ = false ∧ U.frozen? ⟨X, 6, none⟩ = false ∧ U.frozen? ⟨X, 7, none⟩ = false := by
  refine ⟨⟨?_, ?_, ?_, ?_, ?_, ?_, ?_, ?_⟩, ?_, ?_, ?_, ?_, ?_, ?_, ?_, ?_⟩ <;> simp [World.cell?, World.frozen?, hx]
theorem blk3 {U : World} {X : Nat} {a b c : Value} {t : TypeId} (hx : U.heap[X]? = some (.cells #[a, b, c] t (0, 0))) : U.cell? ⟨X, 0, none⟩ = some a ∧ U.cell? ⟨X, 1, none⟩ = some b ∧ U.cell? ⟨X, 2, none⟩ = some c := by
  refine ⟨?_, ?_, ?_⟩ <;> simp [World.cell?, hx]
theorem put8 {N : Nat} {w W : World} {X : Nat} {o0 o1 o2 o3 o4 o5 o6 o7 : Value} {t : TypeId} (hb : Below N w W) (hX : N ≤ X) (hx : W.heap[X]? = some (.cells #[o0, o1, o2, o3, o4, o5, o6, o7] t (0, 0))) (v0 v1 v2 v3 v4 v5 v6 v7 : Value) :
    ∃ U, ((((((((W.setCell ⟨X, 0, none⟩ v0).setCell ⟨X, 1, none⟩ v1).setCell ⟨X, 2, none⟩ v2).setCell ⟨X, 3, none⟩ v3).setCell ⟨X, 4, none⟩ v4).setCell ⟨X, 5, none⟩ v5).setCell ⟨X, 6, none⟩ v6).setCell ⟨X, 7, none⟩ v7) = U ∧ U.heap[X]? = some (.cells #[v0, v1, v2, v3, v4, v5, v6, v7] t (0, 0)) ∧ Below N w U ∧ (∀ k, k ≠ X → U.heap[k]? = W.heap[k]?) ∧ U.heap.size = W.heap.size := by
  have x0 := bset (i := 0) hx v0
  simp only [List.setIfInBounds_toArray, List.set_cons_zero] at x0
  have x1 := bset (i := 1) x0 v1
  simp only [List.setIfInBounds_toArray, List.set_cons_zero, List.set_cons_succ] at x1
  have x2 := bset (i := 2) x1 v2
  simp only [List.setIfInBounds_toArray, List.set_cons_zero, List.set_cons_succ] at x2
  have x3 := bset (i := 3) x2 v3
  simp only [List.setIfInBounds_toArray, List.set_cons_zero, List.set_cons_succ] at x3
  have x4 := bset (i := 4) x3 v4
  simp only [List.setIfInBounds_toArray, List.set_cons_zero, List.set_cons_succ] at x4
  have x5 := bset (i := 5) x4 v5
  simp only [List.setIfInBounds_toArray, List.set_cons_zero, List.set_cons_succ] at x5
  have x6 := bset (i := 6) x5 v6
  simp only [List.setIfInBounds_toArray, List.set_cons_zero, List.set_cons_succ] at x6
  have x7 := bset (i := 7) x6 v7
  simp only [List.setIfInBounds_toArray, List.set_cons_zero, List.set_cons_succ] at x7
  refine ⟨_, rfl, x7, ((((((((hb.setCell (p := ⟨X, 0, none⟩) hX v0).setCell (p := ⟨X, 1, none⟩) hX v1).setCell (p := ⟨X, 2, none⟩) hX v2).setCell (p := ⟨X, 3, none⟩) hX v3).setCell (p := ⟨X, 4, none⟩) hX v4).setCell (p := ⟨X, 5, none⟩) hX v5).setCell (p := ⟨X, 6, none⟩) hX v6).setCell (p := ⟨X, 7, none⟩) hX v7), fun k hk => ?_, by simp [World.setCell]⟩
  rw [Below.heap_setCell _ _ _ _ hk, Below.heap_setCell _ _ _ _ hk, Below.heap_setCell _ _ _ _ hk, Below.heap_setCell _ _ _ _ hk, Below.heap_setCell _ _ _ _ hk, Below.heap_setCell _ _ _ _ hk, Below.heap_setCell _ _ _ _ hk, Below.heap_setCell _ _ _ _ hk]
set_option maxHeartbeats 1000000 in
theorem add_p (a : Mo) (p : Sp) (w : World) (ha : MoB a) (hp : SpB p) : Calls Tryz.prog 91 #[moV a, spV p] w fun e w' => e = .returned (moV (addM a p)) ∧ Below w.heap.size w w' := by
  obtain ⟨k, y, m, d, s, n, hz, z⟩ := a
  obtain ⟨o, ps, pn⟩ := p
  obtain ⟨y0, y1, m0, m1, d0, d1, s0, s1, n0, n1⟩ := ha
  obtain ⟨o0, o1, ps0, ps1, pn0, pn1⟩ := hp
  dsimp only at *
  have c1 := fun W : World => carry_p (m - 1 + o) 12 W (by omega) (by omega) (by omega) (by omega)
  have c2 := fun W : World => placeOf_p y W (by omega) (by omega)
  have hln : -10000000001 < lnY y ∧ lnY y < 10000000001 := by unfold lnY; split <;> omega
  have c3 := fun W : World => yearAt_p (lnY y + (m - 1 + o) / 12) W (by omega) (by omega)
  have hbk0 : -1000000000000 < bkY (lnY y + (m - 1 + o) / 12) ∧ bkY (lnY y + (m - 1 + o) / 12) < 1000000000000 := by unfold bkY; split <;> omega
  have c4 := fun W : World => length_p (bkY (lnY y + (m - 1 + o) / 12)) ((m - 1 + o) % 12 + 1) W (by omega) (by omega) (by omega) (by omega)
  rw [ln_bk] at c4
  have hlen := len_in (l := lnY y + (m - 1 + o) / 12) (m := (m - 1 + o) % 12 + 1) (by omega) (by omega)
  have b1 : -100000000000 < (m - 1 + o) / 12 ∧ (m - 1 + o) / 12 < 100000000000 := by omega
  have b2 := emod_in (m - 1 + o) (show (0 : Int) < 12 by omega)
  have c5 := fun W : World => carry_p (n + pn) 1000000000 W (by omega) (by omega) (by omega) (by omega)
  have b3 : -100000000 < (n + pn) / 1000000000 ∧ (n + pn) / 1000000000 < 100000000 := by omega
  have b4 := emod_in (n + pn) (show (0 : Int) < 1000000000 by omega)
  have c6 := fun W : World => carry_p (s + ps + (n + pn) / 1000000000) 86400 W (by omega) (by omega) (by omega) (by omega)
  have b5 : -1000000000000 < (s + ps + (n + pn) / 1000000000) / 86400 ∧ (s + ps + (n + pn) / 1000000000) / 86400 < 1000000000000 := by omega
  have b6 := emod_in (s + ps + (n + pn) / 1000000000) (show (0 : Int) < 86400 by omega)
  have hE : addM ⟨k, y, m, d, s, n, hz, z⟩ ⟨o, ps, pn⟩ =
      ⟨k, bkY (civL (daysS (bkY (lnY y + (m - 1 + o) / 12)) ((m - 1 + o) % 12 + 1) (if lenL (lnY y + (m - 1 + o) / 12) ((m - 1 + o) % 12 + 1) < d then lenL (lnY y + (m - 1 + o) / 12) ((m - 1 + o) % 12 + 1) else d) + (s + ps + (n + pn) / 1000000000) / 86400)),
        (civM (daysS (bkY (lnY y + (m - 1 + o) / 12)) ((m - 1 + o) % 12 + 1) (if lenL (lnY y + (m - 1 + o) / 12) ((m - 1 + o) % 12 + 1) < d then lenL (lnY y + (m - 1 + o) / 12) ((m - 1 + o) % 12 + 1) else d) + (s + ps + (n + pn) / 1000000000) / 86400) : Nat),
        civD (daysS (bkY (lnY y + (m - 1 + o) / 12)) ((m - 1 + o) % 12 + 1) (if lenL (lnY y + (m - 1 + o) / 12) ((m - 1 + o) % 12 + 1) < d then lenL (lnY y + (m - 1 + o) / 12) ((m - 1 + o) % 12 + 1) else d) + (s + ps + (n + pn) / 1000000000) / 86400),
        (s + ps + (n + pn) / 1000000000) % 86400, (n + pn) % 1000000000, hz, z⟩ := rfl
  rw [hE]
  clear hE
  have hdb : ∀ l : Int, -100000000000000 < l → l < 100000000000000 → ∀ (j : Nat) (D : Int), j ≤ 12 → -10000000000 ≤ D → D ≤ 10000000000 → -99999999999999999 < dayN l j D ∧ dayN l j D < 99999999999999999 := by
    intro l l0 l1 j D hj D0 D1
    unfold dayN
    have := cum_nonneg l (j - 1)
    have := cum_le l (show j - 1 ≤ 12 by omega)
    unfold ahd
    omega
  clear hdb
  generalize hO : (m - 1 + o) % 12 = O at *
  generalize hV : (m - 1 + o) / 12 = V at *
  generalize hLy : lnY y = Ly at *
  generalize hNR : (n + pn) % 1000000000 = NR at *
  generalize hNV : (n + pn) / 1000000000 = NV at *
  generalize hSR : (s + ps + NV) % 86400 = SR at *
  generalize hSV : (s + ps + NV) / 86400 = SV at *
  have hY : lnY (bkY (Ly + V)) = Ly + V := ln_bk _
  generalize lenL (Ly + V) (O + 1) = LEN at *
  obtain ⟨hlen0, hlen1⟩ := hlen
  generalize hYY : bkY (Ly + V) = Y at *
  have hC : -10000000000 < (if LEN < d then LEN else d) ∧ (if LEN < d then LEN else d) < 10000000000 := by split <;> omega
  have hdays : -500000000000000 < daysS Y (O + 1) (if LEN < d then LEN else d) ∧ daysS Y (O + 1) (if LEN < d then LEN else d) < 500000000000000 := by
    unfold daysS dayN
    rw [hY]
    have h1 : (O + 1 - 1) / 12 = 0 := by omega
    rw [h1, Int.add_zero, Nat.add_sub_cancel]
    have := cum_nonneg (Ly + V) ((O + 1 - 1) % 12).toNat
    have := cum_le (Ly + V) (show ((O + 1 - 1) % 12).toNat ≤ 12 by omega)
    have ha : -200000000000000 < ahd (Ly + V) ∧ ahd (Ly + V) < 200000000000000 := by unfold ahd; omega
    have hb : ahd 2000 = 730485 := by decide
    omega
  have c7 := fun W : World => days_p Y (O + 1) (if LEN < d then LEN else d) W hbk0.1 hbk0.2 (by omega) (by omega) (by omega) (by omega)
  generalize hCC : (if LEN < d then LEN else d) = C at *
  have c8 := fun W : World => dayAt_p (daysS Y (O + 1) C + SV) W (by omega) (by omega)
  have HC : Hid _ := And.intro c1 (And.intro c2 (And.intro c3 (And.intro c4 (And.intro c5 (And.intro c6 (And.intro c7 c8))))))
  clear c1 c2 c3 c4 c5 c6 c7 c8
  generalize daysS Y (O + 1) C = DD at *
  have HCC : Hid _ := hCC
  obtain ⟨b11, b12⟩ := b1
  obtain ⟨b21, b22⟩ := b2
  obtain ⟨b31, b32⟩ := b3
  obtain ⟨b41, b42⟩ := b4
  obtain ⟨b51, b52⟩ := b5
  obtain ⟨b61, b62⟩ := b6
  obtain ⟨hdays0, hdays1⟩ := hdays
  obtain ⟨hC0, hC1⟩ := hC
  obtain ⟨hbk1, hbk2⟩ := hbk0
  obtain ⟨hln0, hln1⟩ := hln
  clear hO hV hLy hNR hNV hSR hSV hY hYY
  go_enter Tryz.func91, Tryz.ntmps91
  go_wp2_with (first | (go_at_call 134; with_reducible refine Calls.mono (HC.out.1 _) ?_; rintro e w' ⟨rfl, q1, rfl⟩) | (go_at_call 136; with_reducible refine Calls.mono (HC.out.2.1 _) ?_; rintro e w' ⟨rfl, rfl⟩)  | (go_at_call 135; with_reducible refine Calls.mono (HC.out.2.2.1 _) ?_; rintro e w' ⟨rfl, rfl⟩))
  have HA0 := AB.init w #[.int .i64 k, .int .i64 y, .int .i64 m, .int .i64 d, .int .i64 s, .int .i64 n, .bool hz, .int .i64 z] #[.int .i64 o, .int .i64 ps, .int .i64 pn] mo0 36 38 36
  obtain ⟨U, hU, HA⟩ := AB.ex (((HA0.drew q1).set 1 (.int .i64 Y)).set 2 (.int .i64 (O + 1)))
  rw [hU]
  clear hU HA0
  simp only [List.setIfInBounds_toArray, List.set_cons_zero, List.set_cons_succ] at HA
  obtain ⟨⟨g0, g1, g2, g3, g4, g5, g6, g7⟩, f0, f1, f2, f3, f4, f5, f6, f7⟩ := blk8 HA.x1
  have HAH : Hid _ := HA
  clear HA
  go_cut [] (fun wx => AB w wx #[.int .i64 k, .int .i64 Y, .int .i64 (O + 1), .int .i64 C, .int .i64 s, .int .i64 n, .bool hz, .int .i64 z] #[.int .i64 o, .int .i64 ps, .int .i64 pn] mo0 36 38 36)
  case first =>
    go_region_with ((go_at_call 137; (with_reducible refine Calls.mono (HC.out.2.2.2.1 _) ?_); rintro e w9 ⟨rfl, rfl⟩))
    all_goals
      go_wp2_with fail
      go_meet
      case rel => exact (HAH.out.set 3 (.int .i64 C)).drew 1
  case rest =>
    clear g0 g1 g2 g3 g4 g5 g6 g7 f0 f1 f2 f3 f4 f5 f6 f7 HAH
    obtain ⟨⟨g0, g1, g2, g3, g4, g5, g6, g7⟩, f0, f1, f2, f3, f4, f5, f6, f7⟩ := blk8 hcut.x1
    obtain ⟨p0, p1, p2⟩ := blk3 hcut.x2
    have HAH : Hid _ := hcut
    clear hcut
    go_wp2_with (first | (go_at_call 134; with_reducible refine Calls.mono (HC.out.2.2.2.2.1 _) ?_; rintro e w' ⟨rfl, q2, rfl⟩) | (go_at_call 134; with_reducible refine Calls.mono (HC.out.2.2.2.2.2.1 _) ?_; rintro e w' ⟨rfl, q3, rfl⟩))
    with_reducible refine Calls.mono (HC.out.2.2.2.2.2.2.1 _) ?_
    rintro e w5 ⟨rfl, hB5⟩
    have HA := ((((HAH.out.drew q2).set 5 (.int .i64 NR)).drew q3).set 4 (.int .i64 SR)).below hB5
    simp only [List.setIfInBounds_toArray, List.set_cons_zero, List.set_cons_succ] at HA
    clear hB5 HAH g0 g1 g2 g3 g4 g5 g6 g7 f0 f1 f2 f3 f4 f5 f6 f7 p0 p1 p2
    have HAH : Hid _ := HA
    clear HA
    go_wp2_with fail
    with_reducible refine Calls.mono (HC.out.2.2.2.2.2.2.2 _) ?_
    rintro e w6 ⟨rfl, hB6⟩
    have HA := HAH.out.below hB6
    clear HAH hB6
    obtain ⟨⟨g0, g1, g2, g3, g4, g5, g6, g7⟩, f0, f1, f2, f3, f4, f5, f6, f7⟩ := blk8 HA.x1
    obtain ⟨⟨r0, r1, r2, r3, r4, r5, r6, r7⟩, t0, t1, t2, t3, t4, t5, t6, t7⟩ := blk8 HA.x3
    have HAH : Hid _ := HA
    clear HA
    go_wp2_with fail
    have HA3 := ((HAH.out.set 1 (.int .i64 (bkY (civL (DD + SV))))).set 2 (.int .i64 (civM (DD + SV) : Nat))).set 3 (.int .i64 (civD (DD + SV)))
    obtain ⟨U2, hU2, hx2, hb2, _⟩ := put8 (X := w.heap.size + 1 + 1) HA3.hb (by omega) HA3.x3 (.int .i64 k) (.int .i64 (bkY (civL (DD + SV)))) (.int .i64 (civM (DD + SV) : Nat)) (.int .i64 (civD (DD + SV))) (.int .i64 SR) (.int .i64 NR) (.bool hz) (.int .i64 z)
    rw [hU2]
    obtain ⟨⟨k0, k1, k2, k3, k4, k5, k6, k7⟩, _⟩ := blk8 hx2
    clear hU2 HA3 g0 g1 g2 g3 g4 g5 g6 g7 f0 f1 f2 f3 f4 f5 f6 f7 r0 r1 r2 r3 r4 r5 r6 r7 t0 t1 t2 t3 t4 t5 t6 t7
    exact bodyPost_ret (v := moV ⟨k, bkY (civL (DD + SV)), (civM (DD + SV) : Nat), civD (DD + SV), SR, NR, hz, z⟩) (by simp [results, Tryz.results91, go_sem, k0, k1, k2, k3, k4, k5, k6, k7]) rfl ⟨rfl, hb2⟩
end Go.Proofs.YtgaegajcejpmdaaGreatDoor.Dt
namespace Go.Proofs.YtgaegajcejpmdaaGreatDoor.Dt
open Go.RowKit
set_option linter.unusedVariables false

def cmpI (a b : Int) : Int := if a < b then -1 else if b < a then 1 else 0
def lex3 (a b c x y z : Int) : Int := if cmpI a x ≠ 0 then cmpI a x else if cmpI b y ≠ 0 then cmpI b y else cmpI c z
theorem nan_p (a : Int) (w : World) : Calls Tryz.prog 142 #[.int .i64 a] w fun e w' => e = .returned (.bool false) ∧ w' = w := by
  go_enter Tryz.func142, Tryz.ntmps142
  go_wp2_with fail
  go_ret
  exact ⟨ret_bool (by simp), rfl⟩
theorem compare_p (a b : Int) (w : World) : Calls Tryz.prog 99 #[.int .i64 a, .int .i64 b] w fun e w' => e = .returned (.int .i64 (cmpI a b)) ∧ w' = w := by
  unfold cmpI
  by_cases h : a < b
  · rw [if_pos h]
    go_enter Tryz.func99, Tryz.ntmps99
    go_wp2_with (first | (go_at_call 142; refine Calls.mono (nan_p _ _) ?_; rintro e w' ⟨rfl, rfl⟩))
    go_ret
    exact ⟨rfl, rfl⟩
  · rw [if_neg h]
    by_cases h' : b < a
    · rw [if_pos h']
      go_enter Tryz.func99, Tryz.ntmps99
      go_wp2_with (first | (go_at_call 142; refine Calls.mono (nan_p _ _) ?_; rintro e w' ⟨rfl, rfl⟩))
      go_ret
      exact ⟨rfl, rfl⟩
    · rw [if_neg h']
      go_enter Tryz.func99, Tryz.ntmps99
      go_wp2_with (first | (go_at_call 142; refine Calls.mono (nan_p _ _) ?_; rintro e w' ⟨rfl, rfl⟩))
      go_ret
      exact ⟨rfl, rfl⟩
set_option maxHeartbeats 400000 in
theorem compare3_p (a b c x y z : Int) (A B : Nat) (w : World) (hA : w.heap[A]? = some (.cells #[.int .i64 a, .int .i64 b, .int .i64 c] 3 (0, 0))) (hB : w.heap[B]? = some (.cells #[.int .i64 x, .int .i64 y, .int .i64 z] 3 (0, 0))) :
    Calls Tryz.prog 132 #[.slice (some ⟨A, 0, none⟩) 3 3, .slice (some ⟨B, 0, none⟩) 3 3] w fun e w' => e = .returned (.int .i64 (lex3 a b c x y z)) ∧ w' = w := by
  obtain ⟨a0, a1, a2⟩ := blk3 hA
  obtain ⟨b0, b1, b2⟩ := blk3 hB
  have HC : Hid _ := And.intro (compare_p a x w) (And.intro (compare_p b y w) (compare_p c z w))
  clear hA hB
  unfold lex3
  generalize cmpI a x = r1 at *
  generalize cmpI b y = r2 at *
  generalize cmpI c z = r3 at *
  by_cases h1 : r1 = 0
  · subst h1
    rw [if_neg (by simp)]
    by_cases h2 : r2 = 0
    · subst h2
      rw [if_neg (by simp)]
      by_cases h3 : r3 = 0
      · subst h3
        go_enter Tryz.func132, Tryz.ntmps132
        go_wp2_with fail
        refine wp_loop_rounds 4 ?_
        rw [rounds_succ]
        go_wp2_with (first | (go_at_call 99; with_reducible refine Calls.mono HC.out.1 ?_; rintro e w' ⟨rfl, rfl⟩))
        rw [rounds_succ]
        go_wp2_with (first | (go_at_call 99; with_reducible refine Calls.mono HC.out.2.1 ?_; rintro e w' ⟨rfl, rfl⟩))
        rw [rounds_succ]
        go_wp2_with (first | (go_at_call 99; with_reducible refine Calls.mono HC.out.2.2 ?_; rintro e w' ⟨rfl, rfl⟩))
        rw [rounds_succ]
        go_wp2_with fail
        go_ret
        exact ⟨rfl, rfl⟩
      · have h3' : (r3 != 0) = true := by simpa using h3
        go_enter Tryz.func132, Tryz.ntmps132
        go_wp2_with fail
        refine wp_loop_rounds 4 ?_
        rw [rounds_succ]
        go_wp2_with (first | (go_at_call 99; with_reducible refine Calls.mono HC.out.1 ?_; rintro e w' ⟨rfl, rfl⟩))
        rw [rounds_succ]
        go_wp2_with (first | (go_at_call 99; with_reducible refine Calls.mono HC.out.2.1 ?_; rintro e w' ⟨rfl, rfl⟩))
        rw [rounds_succ]
        go_wp2_with (first | (go_at_call 99; with_reducible refine Calls.mono HC.out.2.2 ?_; rintro e w' ⟨rfl, rfl⟩))
        go_ret
        exact ⟨rfl, rfl⟩
    · rw [if_pos h2]
      have h2' : (r2 != 0) = true := by simpa using h2
      go_enter Tryz.func132, Tryz.ntmps132
      go_wp2_with fail
      refine wp_loop_rounds 3 ?_
      rw [rounds_succ]
      go_wp2_with (first | (go_at_call 99; with_reducible refine Calls.mono HC.out.1 ?_; rintro e w' ⟨rfl, rfl⟩))
      rw [rounds_succ]
      go_wp2_with (first | (go_at_call 99; with_reducible refine Calls.mono HC.out.2.1 ?_; rintro e w' ⟨rfl, rfl⟩))
      go_ret
      exact ⟨rfl, rfl⟩
  · rw [if_pos h1]
    have h1' : (r1 != 0) = true := by simpa using h1
    go_enter Tryz.func132, Tryz.ntmps132
    go_wp2_with fail
    refine wp_loop_rounds 2 ?_
    rw [rounds_succ]
    go_wp2_with (first | (go_at_call 99; with_reducible refine Calls.mono HC.out.1 ?_; rintro e w' ⟨rfl, rfl⟩))
    go_ret
    exact ⟨rfl, rfl⟩
/-- A moment's line: its days, its seconds, its nanoseconds. -/
theorem lex_ord {D s n E t m : Int} (hn0 : 0 ≤ n) (hn1 : n < 1000000000) (hm0 : 0 ≤ m) (hm1 : m < 1000000000) :
    lex3 (D + (s + n / 1000000000) / 86400) ((s + n / 1000000000) % 86400) (n % 1000000000) (E + (t + m / 1000000000) / 86400) ((t + m / 1000000000) % 86400) (m % 1000000000) = ordS (86400 * D + s) n (86400 * E + t) m := by
  unfold lex3 cmpI ordS
  rw [show n / 1000000000 = 0 by omega, show m / 1000000000 = 0 by omega, show n % 1000000000 = n by omega, show m % 1000000000 = m by omega, Int.add_zero, Int.add_zero]
  repeat' split
  all_goals omega
set_option maxHeartbeats 400000 in
theorem line_p (a : Mo) (w : World) (ha : MoB a) (hz0 : -1000000 < a.z) (hz1 : a.z < 1000000) : Calls Tryz.prog 133 #[moV a] w fun e w' => ∃ b, e = .returned (.slice (some ⟨b, 0, none⟩) 3 3) ∧ w'.heap[b]? = some (.cells #[.int .i64 (daysS a.y a.m a.d + (a.s - 60 * a.z + a.n / 1000000000) / 86400), .int .i64 ((a.s - 60 * a.z + a.n / 1000000000) % 86400), .int .i64 (a.n % 1000000000)] 3 (0, 0)) ∧ Below w.heap.size w w' := by
  obtain ⟨k, y, m, d, s, n, hz, z⟩ := a
  obtain ⟨y0, y1, m0, m1, d0, d1, s0, s1, n0, n1⟩ := ha
  dsimp only at *
  have c1 := fun W : World => carry_p n 1000000000 W (by omega) (by omega) (by omega) (by omega)
  have b3 : -100000000 < n / 1000000000 ∧ n / 1000000000 < 100000000 := by omega
  have b4 := emod_in n (show (0 : Int) < 1000000000 by omega)
  have c2 := fun W : World => carry_p (s - 60 * z + n / 1000000000) 86400 W (by omega) (by omega) (by omega) (by omega)
  have b5 : -1000000000000 < (s - 60 * z + n / 1000000000) / 86400 ∧ (s - 60 * z + n / 1000000000) / 86400 < 1000000000000 := by omega
  have b6 := emod_in (s - 60 * z + n / 1000000000) (show (0 : Int) < 86400 by omega)
  have c3 := fun W : World => days_p y m d W (by omega) (by omega) (by omega) (by omega) (by omega) (by omega)
  have hd : -100000000000000 < daysS y m d ∧ daysS y m d < 100000000000000 := by
    unfold daysS dayN
    have hl : -20000000000 < lnY y + (m - 1) / 12 ∧ lnY y + (m - 1) / 12 < 20000000000 := by unfold lnY; split <;> omega
    generalize lnY y + (m - 1) / 12 = l at *
    rw [Nat.add_sub_cancel]
    have := cum_nonneg l ((m - 1) % 12).toNat
    have := cum_le l (show ((m - 1) % 12).toNat ≤ 12 by omega)
    have ha : -20000000000000 < ahd l ∧ ahd l < 20000000000000 := by unfold ahd; omega
    have hb : ahd 2000 = 730485 := by decide
    omega
  have HC : Hid _ := And.intro c1 (And.intro c2 c3)
  clear c1 c2 c3
  generalize n / 1000000000 = NV at *
  generalize n % 1000000000 = NR at *
  generalize (s - 60 * z + NV) / 86400 = SV at *
  generalize (s - 60 * z + NV) % 86400 = SR at *
  generalize daysS y m d = DD at *
  obtain ⟨b31, b32⟩ := b3
  obtain ⟨b41, b42⟩ := b4
  obtain ⟨b51, b52⟩ := b5
  obtain ⟨b61, b62⟩ := b6
  obtain ⟨hd0, hd1⟩ := hd
  go_enter Tryz.func133, Tryz.ntmps133
  go_wp2_with (first | (go_at_call 134; with_reducible refine Calls.mono (HC.out.1 _) ?_; rintro e w' ⟨rfl, q2, rfl⟩) | (go_at_call 134; with_reducible refine Calls.mono (HC.out.2.1 _) ?_; rintro e w' ⟨rfl, q3, rfl⟩))
  with_reducible refine Calls.mono (HC.out.2.2 _) ?_
  rintro e w5 ⟨rfl, hB5⟩
  have hb0 := bdrewN (bdrewN ((Below.refl w.heap.size w).alloc (Nat.le_refl _) (.cells #[.int .i64 k, .int .i64 y, .int .i64 m, .int .i64 d, .int .i64 s, .int .i64 n, .bool hz, .int .i64 z] 36)) q2) q3
  rw [World.drewN_drewN] at hb0
  have HB : Hid (Below w.heap.size w w5) := hb0.trans (hB5.mono hb0.size)
  clear hb0 hB5
  go_wp2_with fail
  go_ret
  refine ⟨_, rfl, nw_heap _ _, HB.out.alloc HB.out.size _⟩
end Go.Proofs.YtgaegajcejpmdaaGreatDoor.Dt
namespace Go.Proofs.YtgaegajcejpmdaaGreatDoor.Dt
open Go.RowKit
set_option linter.unusedVariables false

theorem box2 (w : World) (A B : Obj) : ((w.alloc A).alloc B).heap[w.heap.size]? = some A ∧ ((w.alloc A).alloc B).heap[w.heap.size + 1]? = some B ∧ Below w.heap.size w ((w.alloc A).alloc B) := by
  have hA := nw_heap w A
  have hB := nw_heap (w.alloc A) B
  have b1 : Below (w.alloc A).heap.size (w.alloc A) ((w.alloc A).alloc B) := (Below.refl _ _).alloc (Nat.le_refl _) _
  rw [sza] at hB
  exact ⟨(b1.block _ (by simp)).trans hA, hB, ((Below.refl _ _).alloc (Nat.le_refl _) _).alloc (by simp) _⟩
/-- Bounds for a moment whose line is asked. -/
structure MoL (a : Mo) : Prop where
  b : MoB a
  n0 : 0 ≤ a.n
  n1 : a.n < 1000000000
  z0 : -1000000 < a.z
  z1 : a.z < 1000000
set_option maxHeartbeats 1000000 in
theorem byLines_p (a b : Mo) (w : World) (ha : MoL a) (hb : MoL b) : Calls Tryz.prog 88 #[moV a, moV b] w fun e w' => e = .returned (.int .i64 (ordS (linS a a.z) a.n (linS b b.z) b.n)) ∧ Below w.heap.size w w' := by
  have hlx := lex_ord (D := daysS a.y a.m a.d) (s := a.s - 60 * a.z) (E := daysS b.y b.m b.d) (t := b.s - 60 * b.z) ha.n0 ha.n1 hb.n0 hb.n1
  have e1 : ordS (linS a a.z) a.n (linS b b.z) b.n = ordS (86400 * daysS a.y a.m a.d + (a.s - 60 * a.z)) a.n (86400 * daysS b.y b.m b.d + (b.s - 60 * b.z)) b.n := by
    unfold linS
    rw [Int.add_sub_assoc, Int.add_sub_assoc]
  rw [e1, ← hlx]
  clear e1 hlx
  obtain ⟨x1, x2, hb0⟩ := box2 w (.cells (moC a) 36) (.cells (moC b) 36)
  have ql := fun W : World => line_p a W ha.b ha.z0 ha.z1
  have qr := fun W : World => line_p b W hb.b hb.z0 hb.z1
  have qc := compare3_p (daysS a.y a.m a.d + (a.s - 60 * a.z + a.n / 1000000000) / 86400) ((a.s - 60 * a.z + a.n / 1000000000) % 86400) (a.n % 1000000000) (daysS b.y b.m b.d + (b.s - 60 * b.z + b.n / 1000000000) / 86400) ((b.s - 60 * b.z + b.n / 1000000000) % 86400) (b.n % 1000000000)
  generalize daysS a.y a.m a.d + (a.s - 60 * a.z + a.n / 1000000000) / 86400 = A1 at *
  generalize (a.s - 60 * a.z + a.n / 1000000000) % 86400 = A2 at *
  generalize a.n % 1000000000 = A3 at *
  generalize daysS b.y b.m b.d + (b.s - 60 * b.z + b.n / 1000000000) / 86400 = B1 at *
  generalize (b.s - 60 * b.z + b.n / 1000000000) % 86400 = B2 at *
  generalize b.n % 1000000000 = B3 at *
  clear ha hb
  go_enter Tryz.func88, Tryz.ntmps88
  go_wp2_with fail
  generalize hU : ((w.alloc (.cells (moC a) 36)).alloc (.cells (moC b) 36)) = U at *
  clear hU
  have hkp : ∀ W, Below U.heap.size U W → (W.cell? ⟨w.heap.size, 0, none⟩ = some (.int .i64 a.k) ∧ W.cell? ⟨w.heap.size, 1, none⟩ = some (.int .i64 a.y) ∧ W.cell? ⟨w.heap.size, 2, none⟩ = some (.int .i64 a.m) ∧ W.cell? ⟨w.heap.size, 3, none⟩ = some (.int .i64 a.d) ∧ W.cell? ⟨w.heap.size, 4, none⟩ = some (.int .i64 a.s) ∧ W.cell? ⟨w.heap.size, 5, none⟩ = some (.int .i64 a.n) ∧ W.cell? ⟨w.heap.size, 6, none⟩ = some (.bool a.hz) ∧ W.cell? ⟨w.heap.size, 7, none⟩ = some (.int .i64 a.z) ∧ W.cell? ⟨w.heap.size + 1, 0, none⟩ = some (.int .i64 b.k) ∧ W.cell? ⟨w.heap.size + 1, 1, none⟩ = some (.int .i64 b.y) ∧ W.cell? ⟨w.heap.size + 1, 2, none⟩ = some (.int .i64 b.m) ∧ W.cell? ⟨w.heap.size + 1, 3, none⟩ = some (.int .i64 b.d) ∧ W.cell? ⟨w.heap.size + 1, 4, none⟩ = some (.int .i64 b.s) ∧ W.cell? ⟨w.heap.size + 1, 5, none⟩ = some (.int .i64 b.n) ∧ W.cell? ⟨w.heap.size + 1, 6, none⟩ = some (.bool b.hz) ∧ W.cell? ⟨w.heap.size + 1, 7, none⟩ = some (.int .i64 b.z)) := fun W hW => by
    obtain ⟨⟨g0, g1, g2, g3, g4, g5, g6, g7⟩, _⟩ := blk8 ((hW.block _ (lt_of x1)).trans x1)
    obtain ⟨⟨h0, h1, h2, h3, h4, h5, h6, h7⟩, _⟩ := blk8 ((hW.block _ (lt_of x2)).trans x2)
    exact ⟨g0, g1, g2, g3, g4, g5, g6, g7, h0, h1, h2, h3, h4, h5, h6, h7⟩
  obtain ⟨g0, g1, g2, g3, g4, g5, g6, g7, h0, h1, h2, h3, h4, h5, h6, h7⟩ := hkp U.drew (below_drewN 1)
  have HB : Hid (Below U.heap.size U U.drew) := below_drewN 1
  have HKP : Hid _ := hkp
  have HC : Hid _ := And.intro ql (And.intro qr (And.intro qc hb0))
  clear hkp x1 x2 hb0 ql qr qc
  go_region_held3 (fun W => W.cell? ⟨w.heap.size, 0, none⟩ = some (.int .i64 a.k) ∧ W.cell? ⟨w.heap.size, 1, none⟩ = some (.int .i64 a.y) ∧ W.cell? ⟨w.heap.size, 2, none⟩ = some (.int .i64 a.m) ∧ W.cell? ⟨w.heap.size, 3, none⟩ = some (.int .i64 a.d) ∧ W.cell? ⟨w.heap.size, 4, none⟩ = some (.int .i64 a.s) ∧ W.cell? ⟨w.heap.size, 5, none⟩ = some (.int .i64 a.n) ∧ W.cell? ⟨w.heap.size, 6, none⟩ = some (.bool a.hz) ∧ W.cell? ⟨w.heap.size, 7, none⟩ = some (.int .i64 a.z) ∧ W.cell? ⟨w.heap.size + 1, 0, none⟩ = some (.int .i64 b.k) ∧ W.cell? ⟨w.heap.size + 1, 1, none⟩ = some (.int .i64 b.y) ∧ W.cell? ⟨w.heap.size + 1, 2, none⟩ = some (.int .i64 b.m) ∧ W.cell? ⟨w.heap.size + 1, 3, none⟩ = some (.int .i64 b.d) ∧ W.cell? ⟨w.heap.size + 1, 4, none⟩ = some (.int .i64 b.s) ∧ W.cell? ⟨w.heap.size + 1, 5, none⟩ = some (.int .i64 b.n) ∧ W.cell? ⟨w.heap.size + 1, 6, none⟩ = some (.bool b.hz) ∧ W.cell? ⟨w.heap.size + 1, 7, none⟩ = some (.int .i64 b.z)) (first | exact ⟨g0, g1, g2, g3, g4, g5, g6, g7, h0, h1, h2, h3, h4, h5, h6, h7⟩ | fail) (first
    | (go_at_call 133; (with_reducible refine Calls.mono (HC.out.1 _) ?_); rintro e w1 ⟨b1, rfl, hx1, hb1⟩; have hbb := HB.out.trans (hb1.mono HB.out.size); clear HB g0 g1 g2 g3 g4 g5 g6 g7 h0 h1 h2 h3 h4 h5 h6 h7; obtain ⟨g0, g1, g2, g3, g4, g5, g6, g7, h0, h1, h2, h3, h4, h5, h6, h7⟩ := HKP.out _ hbb; have HB : Hid _ := hbb; have HX1 : Hid _ := hx1; clear hbb hb1 hx1)
    | (go_at_call 133; (with_reducible refine Calls.mono (HC.out.2.1 _) ?_); rintro e w2 ⟨b2, rfl, hx2, hb2⟩; have hbb := HB.out.trans (hb2.mono HB.out.size); clear HB g0 g1 g2 g3 g4 g5 g6 g7 h0 h1 h2 h3 h4 h5 h6 h7; obtain ⟨g0, g1, g2, g3, g4, g5, g6, g7, h0, h1, h2, h3, h4, h5, h6, h7⟩ := HKP.out _ hbb; have HB : Hid _ := hbb; have HX2 : Hid _ := And.intro hx2 ((hb2.block _ (lt_of HX1.out)).trans HX1.out); clear hbb hb2 hx2)
    | (go_at_call 132; (with_reducible refine Calls.mono (HC.out.2.2.1 _ _ _ HX2.out.2 HX2.out.1) ?_); rintro e w3 ⟨rfl, hw3⟩; subst hw3)
    | fail)
  all_goals
    go_wp2_with fail
    go_ret
    exact ⟨rfl, HC.out.2.2.2.trans (HB.out.mono HC.out.2.2.2.size)⟩
end Go.Proofs.YtgaegajcejpmdaaGreatDoor.Dt
