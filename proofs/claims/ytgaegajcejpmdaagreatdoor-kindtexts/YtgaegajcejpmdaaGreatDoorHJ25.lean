/- Joined: HK25, HK26, HK27, HK30, HK13, HK14. -/
import Derived.Test.YtgaegajcejpmdaaGreatDoorHJ22
import Derived.Test.YtgaegajcejpmdaaGreatDoorHJ24
import Derived.Test.YtgaegajcejpmdaaGreatDoorHJ9
import Derived.Test.YtgaegajcejpmdaaGreatDoorHJ19
import Derived.Test.YtgaegajcejpmdaaGreatDoorHJ18
namespace Go.Proofs.YtgaegajcejpmdaaGreatDoor
open Go.RowKit
set_option linter.unusedVariables false
set_option linter.unusedSimpArgs false

theorem r_ne {p1 s1 : Int} {t1 : ByteArray} {g1 : Bool} {a1 : Option Addr} {b1 c1 : Nat} {m1 : Dt.Mo} {q1 : Dt.Sp} {p2 s2 : Int} {t2 : ByteArray} {g2 : Bool} {a2 : Option Addr} {b2 c2 : Nat} {m2 : Dt.Mo} {q2 : Dt.Sp} (h : p1 ≠ p2) (w : World) : Calls Tryz.prog 28 #[vlV p1 t1 g1 (.slice a1 b1 c1) s1 m1 q1, vlV p2 t2 g2 (.slice a2 b2 c2) s2 m2 q2] w fun e w' => e = .returned (.int .i64 2) ∧ Below w.heap.size w w' := by
  have hb0 : Below w.heap.size w ((w.alloc (.cells #[.int .i64 p1, .string t1, .bool g1, .slice a1 b1 c1, .int .i64 s1, .int .i64 m1.k, .int .i64 m1.y, .int .i64 m1.m, .int .i64 m1.d, .int .i64 m1.s, .int .i64 m1.n, .bool m1.hz, .int .i64 m1.z, .int .i64 q1.o, .int .i64 q1.s, .int .i64 q1.n] 47)).alloc (.cells #[.int .i64 p2, .string t2, .bool g2, .slice a2 b2 c2, .int .i64 s2, .int .i64 m2.k, .int .i64 m2.y, .int .i64 m2.m, .int .i64 m2.d, .int .i64 m2.s, .int .i64 m2.n, .bool m2.hz, .int .i64 m2.z, .int .i64 q2.o, .int .i64 q2.s, .int .i64 q2.n] 47)) := ((Below.refl _ _).alloc (Nat.le_refl _) _).alloc (Below.alloc (Below.refl w.heap.size w) (Nat.le_refl _) _).size _
  have HB : Hid _ := hb0
  clear hb0
  have hne : (p1 != p2) = true := by simpa using h
  have hne2 : (p1 == p2) = false := by simpa using h
  clear h
  go_enter Tryz.func28, Tryz.ntmps28
  go_wp2_with fail
  go_ret
  exact ⟨rfl, HB.out⟩
theorem r_t1y {s1 : Int} {t1 : ByteArray} {g1 : Bool} {a1 : Option Addr} {b1 c1 : Nat} {m1 : Dt.Mo} {q1 : Dt.Sp} {s2 : Int} {t2 : ByteArray} {g2 : Bool} {a2 : Option Addr} {b2 c2 : Nat} {m2 : Dt.Mo} {q2 : Dt.Sp} (h : (t1.toList == t2.toList) = true) (w : World) : Calls Tryz.prog 28 #[vlV 1 t1 g1 (.slice a1 b1 c1) s1 m1 q1, vlV 1 t2 g2 (.slice a2 b2 c2) s2 m2 q2] w fun e w' => e = .returned (.int .i64 0) ∧ Below w.heap.size w w' := by
  have hb0 : Below w.heap.size w ((w.alloc (.cells #[.int .i64 1, .string t1, .bool g1, .slice a1 b1 c1, .int .i64 s1, .int .i64 m1.k, .int .i64 m1.y, .int .i64 m1.m, .int .i64 m1.d, .int .i64 m1.s, .int .i64 m1.n, .bool m1.hz, .int .i64 m1.z, .int .i64 q1.o, .int .i64 q1.s, .int .i64 q1.n] 47)).alloc (.cells #[.int .i64 1, .string t2, .bool g2, .slice a2 b2 c2, .int .i64 s2, .int .i64 m2.k, .int .i64 m2.y, .int .i64 m2.m, .int .i64 m2.d, .int .i64 m2.s, .int .i64 m2.n, .bool m2.hz, .int .i64 m2.z, .int .i64 q2.o, .int .i64 q2.s, .int .i64 q2.n] 47)) := ((Below.refl _ _).alloc (Nat.le_refl _) _).alloc (Below.alloc (Below.refl w.heap.size w) (Nat.le_refl _) _).size _
  have HB : Hid _ := hb0
  clear hb0
  go_enter Tryz.func28, Tryz.ntmps28
  go_wp2_with fail
  go_ret
  exact ⟨rfl, HB.out⟩
theorem r_t1n {s1 : Int} {t1 : ByteArray} {g1 : Bool} {a1 : Option Addr} {b1 c1 : Nat} {m1 : Dt.Mo} {q1 : Dt.Sp} {s2 : Int} {t2 : ByteArray} {g2 : Bool} {a2 : Option Addr} {b2 c2 : Nat} {m2 : Dt.Mo} {q2 : Dt.Sp} (h : (t1.toList == t2.toList) = false) (w : World) : Calls Tryz.prog 28 #[vlV 1 t1 g1 (.slice a1 b1 c1) s1 m1 q1, vlV 1 t2 g2 (.slice a2 b2 c2) s2 m2 q2] w fun e w' => e = .returned (.int .i64 2) ∧ Below w.heap.size w w' := by
  have hb0 : Below w.heap.size w ((w.alloc (.cells #[.int .i64 1, .string t1, .bool g1, .slice a1 b1 c1, .int .i64 s1, .int .i64 m1.k, .int .i64 m1.y, .int .i64 m1.m, .int .i64 m1.d, .int .i64 m1.s, .int .i64 m1.n, .bool m1.hz, .int .i64 m1.z, .int .i64 q1.o, .int .i64 q1.s, .int .i64 q1.n] 47)).alloc (.cells #[.int .i64 1, .string t2, .bool g2, .slice a2 b2 c2, .int .i64 s2, .int .i64 m2.k, .int .i64 m2.y, .int .i64 m2.m, .int .i64 m2.d, .int .i64 m2.s, .int .i64 m2.n, .bool m2.hz, .int .i64 m2.z, .int .i64 q2.o, .int .i64 q2.s, .int .i64 q2.n] 47)) := ((Below.refl _ _).alloc (Nat.le_refl _) _).alloc (Below.alloc (Below.refl w.heap.size w) (Nat.le_refl _) _).size _
  have HB : Hid _ := hb0
  clear hb0
  go_enter Tryz.func28, Tryz.ntmps28
  go_wp2_with fail
  go_ret
  exact ⟨rfl, HB.out⟩
theorem r_t9y {s1 : Int} {t1 : ByteArray} {g1 : Bool} {a1 : Option Addr} {b1 c1 : Nat} {m1 : Dt.Mo} {q1 : Dt.Sp} {s2 : Int} {t2 : ByteArray} {g2 : Bool} {a2 : Option Addr} {b2 c2 : Nat} {m2 : Dt.Mo} {q2 : Dt.Sp} (h : (t1.toList == t2.toList) = true) (w : World) : Calls Tryz.prog 28 #[vlV 9 t1 g1 (.slice a1 b1 c1) s1 m1 q1, vlV 9 t2 g2 (.slice a2 b2 c2) s2 m2 q2] w fun e w' => e = .returned (.int .i64 0) ∧ Below w.heap.size w w' := by
  have hb0 : Below w.heap.size w ((w.alloc (.cells #[.int .i64 9, .string t1, .bool g1, .slice a1 b1 c1, .int .i64 s1, .int .i64 m1.k, .int .i64 m1.y, .int .i64 m1.m, .int .i64 m1.d, .int .i64 m1.s, .int .i64 m1.n, .bool m1.hz, .int .i64 m1.z, .int .i64 q1.o, .int .i64 q1.s, .int .i64 q1.n] 47)).alloc (.cells #[.int .i64 9, .string t2, .bool g2, .slice a2 b2 c2, .int .i64 s2, .int .i64 m2.k, .int .i64 m2.y, .int .i64 m2.m, .int .i64 m2.d, .int .i64 m2.s, .int .i64 m2.n, .bool m2.hz, .int .i64 m2.z, .int .i64 q2.o, .int .i64 q2.s, .int .i64 q2.n] 47)) := ((Below.refl _ _).alloc (Nat.le_refl _) _).alloc (Below.alloc (Below.refl w.heap.size w) (Nat.le_refl _) _).size _
  have HB : Hid _ := hb0
  clear hb0
  go_enter Tryz.func28, Tryz.ntmps28
  go_wp2_with fail
  go_ret
  exact ⟨rfl, HB.out⟩
theorem r_t9n {s1 : Int} {t1 : ByteArray} {g1 : Bool} {a1 : Option Addr} {b1 c1 : Nat} {m1 : Dt.Mo} {q1 : Dt.Sp} {s2 : Int} {t2 : ByteArray} {g2 : Bool} {a2 : Option Addr} {b2 c2 : Nat} {m2 : Dt.Mo} {q2 : Dt.Sp} (h : (t1.toList == t2.toList) = false) (w : World) : Calls Tryz.prog 28 #[vlV 9 t1 g1 (.slice a1 b1 c1) s1 m1 q1, vlV 9 t2 g2 (.slice a2 b2 c2) s2 m2 q2] w fun e w' => e = .returned (.int .i64 2) ∧ Below w.heap.size w w' := by
  have hb0 : Below w.heap.size w ((w.alloc (.cells #[.int .i64 9, .string t1, .bool g1, .slice a1 b1 c1, .int .i64 s1, .int .i64 m1.k, .int .i64 m1.y, .int .i64 m1.m, .int .i64 m1.d, .int .i64 m1.s, .int .i64 m1.n, .bool m1.hz, .int .i64 m1.z, .int .i64 q1.o, .int .i64 q1.s, .int .i64 q1.n] 47)).alloc (.cells #[.int .i64 9, .string t2, .bool g2, .slice a2 b2 c2, .int .i64 s2, .int .i64 m2.k, .int .i64 m2.y, .int .i64 m2.m, .int .i64 m2.d, .int .i64 m2.s, .int .i64 m2.n, .bool m2.hz, .int .i64 m2.z, .int .i64 q2.o, .int .i64 q2.s, .int .i64 q2.n] 47)) := ((Below.refl _ _).alloc (Nat.le_refl _) _).alloc (Below.alloc (Below.refl w.heap.size w) (Nat.le_refl _) _).size _
  have HB : Hid _ := hb0
  clear hb0
  go_enter Tryz.func28, Tryz.ntmps28
  go_wp2_with fail
  go_ret
  exact ⟨rfl, HB.out⟩
theorem r_num {n1 n2 : Dc.Nm} {a1 a2 : Option Addr} {c1 c2 : Nat} {t1 t2 : ByteArray} {m1 m2 : Dt.Mo} {q1 q2 : Dt.Sp} (w : World) (h1 : Dc.NmR w (.slice a1 n1.2.1.length c1) n1) (h2 : Dc.NmR w (.slice a2 n2.2.1.length c2) n2) : Calls Tryz.prog 28 #[vlV 10 t1 n1.1 (.slice a1 n1.2.1.length c1) n1.2.2 m1 q1, vlV 10 t2 n2.1 (.slice a2 n2.2.1.length c2) n2.2.2 m2 q2] w fun e w' => e = .returned (.int .i64 (Dc.cmpS n1 n2)) ∧ Below w.heap.size w w' := by
  have hb0 : Below w.heap.size w ((w.alloc (.cells #[.int .i64 10, .string t1, .bool n1.1, .slice a1 n1.2.1.length c1, .int .i64 n1.2.2, .int .i64 m1.k, .int .i64 m1.y, .int .i64 m1.m, .int .i64 m1.d, .int .i64 m1.s, .int .i64 m1.n, .bool m1.hz, .int .i64 m1.z, .int .i64 q1.o, .int .i64 q1.s, .int .i64 q1.n] 47)).alloc (.cells #[.int .i64 10, .string t2, .bool n2.1, .slice a2 n2.2.1.length c2, .int .i64 n2.2.2, .int .i64 m2.k, .int .i64 m2.y, .int .i64 m2.m, .int .i64 m2.d, .int .i64 m2.s, .int .i64 m2.n, .bool m2.hz, .int .i64 m2.z, .int .i64 q2.o, .int .i64 q2.s, .int .i64 q2.n] 47)) := ((Below.refl _ _).alloc (Nat.le_refl _) _).alloc (Below.alloc (Below.refl w.heap.size w) (Nat.le_refl _) _).size _
  have HB : Hid _ := hb0
  clear hb0
  have HN : Hid _ := And.intro (h1.below HB.out) (h2.below HB.out)
  clear h1 h2
  go_enter Tryz.func28, Tryz.ntmps28
  go_wp2_with (go_at_call 51; refine Calls.mono (Dc.cmp_r HN.out.1 HN.out.2) ?_; rintro e w9 ⟨rfl, hb9⟩)
  go_ret
  exact ⟨rfl, HB.out.trans (hb9.mono HB.out.size)⟩
set_option maxRecDepth 100000 in
set_option maxHeartbeats 3200000 in
theorem r_mom {p1 s1 : Int} {t1 : ByteArray} {g1 : Bool} {a1 : Option Addr} {b1 c1 : Nat} {m1 : Dt.Mo} {q1 : Dt.Sp} {s2 : Int} {t2 : ByteArray} {g2 : Bool} {a2 : Option Addr} {b2 c2 : Nat} {m2 : Dt.Mo} {q2 : Dt.Sp} (h0 : 24 ≤ p1) (h1 : p1 ≤ 31) (l1 : Dt.MoL m1) (l2 : Dt.MoL m2) (w : World) : Calls Tryz.prog 28 #[vlV p1 t1 g1 (.slice a1 b1 c1) s1 m1 q1, vlV p1 t2 g2 (.slice a2 b2 c2) s2 m2 q2] w fun e w' => e = .returned (.int .i64 (Dt.cmpM m1 m2)) ∧ Below w.heap.size w w' := by
  have HC : Hid _ := fun W => Dt.cmp_r m1 m2 W l1 l2
  clear l1 l2
  rcases (by omega : p1 = 24 ∨ p1 = 25 ∨ p1 = 26 ∨ p1 = 27 ∨ p1 = 28 ∨ p1 = 29 ∨ p1 = 30 ∨ p1 = 31) with rfl | rfl | rfl | rfl | rfl | rfl | rfl | rfl
  · clear h0 h1
    have hb0 : Below w.heap.size w ((w.alloc (.cells #[.int .i64 24, .string t1, .bool g1, .slice a1 b1 c1, .int .i64 s1, .int .i64 m1.k, .int .i64 m1.y, .int .i64 m1.m, .int .i64 m1.d, .int .i64 m1.s, .int .i64 m1.n, .bool m1.hz, .int .i64 m1.z, .int .i64 q1.o, .int .i64 q1.s, .int .i64 q1.n] 47)).alloc (.cells #[.int .i64 24, .string t2, .bool g2, .slice a2 b2 c2, .int .i64 s2, .int .i64 m2.k, .int .i64 m2.y, .int .i64 m2.m, .int .i64 m2.d, .int .i64 m2.s, .int .i64 m2.n, .bool m2.hz, .int .i64 m2.z, .int .i64 q2.o, .int .i64 q2.s, .int .i64 q2.n] 47)) := ((Below.refl _ _).alloc (Nat.le_refl _) _).alloc (Below.alloc (Below.refl w.heap.size w) (Nat.le_refl _) _).size _
    have HB : Hid _ := hb0
    clear hb0
    go_enter Tryz.func28, Tryz.ntmps28
    go_wp2_with (go_at_call 53; refine Calls.mono (HC.out _) ?_; rintro e w9 ⟨rfl, hb9⟩)
    go_ret
    exact ⟨rfl, HB.out.trans (hb9.mono HB.out.size)⟩
  · clear h0 h1
    have hb0 : Below w.heap.size w ((w.alloc (.cells #[.int .i64 25, .string t1, .bool g1, .slice a1 b1 c1, .int .i64 s1, .int .i64 m1.k, .int .i64 m1.y, .int .i64 m1.m, .int .i64 m1.d, .int .i64 m1.s, .int .i64 m1.n, .bool m1.hz, .int .i64 m1.z, .int .i64 q1.o, .int .i64 q1.s, .int .i64 q1.n] 47)).alloc (.cells #[.int .i64 25, .string t2, .bool g2, .slice a2 b2 c2, .int .i64 s2, .int .i64 m2.k, .int .i64 m2.y, .int .i64 m2.m, .int .i64 m2.d, .int .i64 m2.s, .int .i64 m2.n, .bool m2.hz, .int .i64 m2.z, .int .i64 q2.o, .int .i64 q2.s, .int .i64 q2.n] 47)) := ((Below.refl _ _).alloc (Nat.le_refl _) _).alloc (Below.alloc (Below.refl w.heap.size w) (Nat.le_refl _) _).size _
    have HB : Hid _ := hb0
    clear hb0
    go_enter Tryz.func28, Tryz.ntmps28
    go_wp2_with (go_at_call 53; refine Calls.mono (HC.out _) ?_; rintro e w9 ⟨rfl, hb9⟩)
    go_ret
    exact ⟨rfl, HB.out.trans (hb9.mono HB.out.size)⟩
  · clear h0 h1
    have hb0 : Below w.heap.size w ((w.alloc (.cells #[.int .i64 26, .string t1, .bool g1, .slice a1 b1 c1, .int .i64 s1, .int .i64 m1.k, .int .i64 m1.y, .int .i64 m1.m, .int .i64 m1.d, .int .i64 m1.s, .int .i64 m1.n, .bool m1.hz, .int .i64 m1.z, .int .i64 q1.o, .int .i64 q1.s, .int .i64 q1.n] 47)).alloc (.cells #[.int .i64 26, .string t2, .bool g2, .slice a2 b2 c2, .int .i64 s2, .int .i64 m2.k, .int .i64 m2.y, .int .i64 m2.m, .int .i64 m2.d, .int .i64 m2.s, .int .i64 m2.n, .bool m2.hz, .int .i64 m2.z, .int .i64 q2.o, .int .i64 q2.s, .int .i64 q2.n] 47)) := ((Below.refl _ _).alloc (Nat.le_refl _) _).alloc (Below.alloc (Below.refl w.heap.size w) (Nat.le_refl _) _).size _
    have HB : Hid _ := hb0
    clear hb0
    go_enter Tryz.func28, Tryz.ntmps28
    go_wp2_with (go_at_call 53; refine Calls.mono (HC.out _) ?_; rintro e w9 ⟨rfl, hb9⟩)
    go_ret
    exact ⟨rfl, HB.out.trans (hb9.mono HB.out.size)⟩
  · clear h0 h1
    have hb0 : Below w.heap.size w ((w.alloc (.cells #[.int .i64 27, .string t1, .bool g1, .slice a1 b1 c1, .int .i64 s1, .int .i64 m1.k, .int .i64 m1.y, .int .i64 m1.m, .int .i64 m1.d, .int .i64 m1.s, .int .i64 m1.n, .bool m1.hz, .int .i64 m1.z, .int .i64 q1.o, .int .i64 q1.s, .int .i64 q1.n] 47)).alloc (.cells #[.int .i64 27, .string t2, .bool g2, .slice a2 b2 c2, .int .i64 s2, .int .i64 m2.k, .int .i64 m2.y, .int .i64 m2.m, .int .i64 m2.d, .int .i64 m2.s, .int .i64 m2.n, .bool m2.hz, .int .i64 m2.z, .int .i64 q2.o, .int .i64 q2.s, .int .i64 q2.n] 47)) := ((Below.refl _ _).alloc (Nat.le_refl _) _).alloc (Below.alloc (Below.refl w.heap.size w) (Nat.le_refl _) _).size _
    have HB : Hid _ := hb0
    clear hb0
    go_enter Tryz.func28, Tryz.ntmps28
    go_wp2_with (go_at_call 53; refine Calls.mono (HC.out _) ?_; rintro e w9 ⟨rfl, hb9⟩)
    go_ret
    exact ⟨rfl, HB.out.trans (hb9.mono HB.out.size)⟩
  · clear h0 h1
    have hb0 : Below w.heap.size w ((w.alloc (.cells #[.int .i64 28, .string t1, .bool g1, .slice a1 b1 c1, .int .i64 s1, .int .i64 m1.k, .int .i64 m1.y, .int .i64 m1.m, .int .i64 m1.d, .int .i64 m1.s, .int .i64 m1.n, .bool m1.hz, .int .i64 m1.z, .int .i64 q1.o, .int .i64 q1.s, .int .i64 q1.n] 47)).alloc (.cells #[.int .i64 28, .string t2, .bool g2, .slice a2 b2 c2, .int .i64 s2, .int .i64 m2.k, .int .i64 m2.y, .int .i64 m2.m, .int .i64 m2.d, .int .i64 m2.s, .int .i64 m2.n, .bool m2.hz, .int .i64 m2.z, .int .i64 q2.o, .int .i64 q2.s, .int .i64 q2.n] 47)) := ((Below.refl _ _).alloc (Nat.le_refl _) _).alloc (Below.alloc (Below.refl w.heap.size w) (Nat.le_refl _) _).size _
    have HB : Hid _ := hb0
    clear hb0
    go_enter Tryz.func28, Tryz.ntmps28
    go_wp2_with (go_at_call 53; refine Calls.mono (HC.out _) ?_; rintro e w9 ⟨rfl, hb9⟩)
    go_ret
    exact ⟨rfl, HB.out.trans (hb9.mono HB.out.size)⟩
  · clear h0 h1
    have hb0 : Below w.heap.size w ((w.alloc (.cells #[.int .i64 29, .string t1, .bool g1, .slice a1 b1 c1, .int .i64 s1, .int .i64 m1.k, .int .i64 m1.y, .int .i64 m1.m, .int .i64 m1.d, .int .i64 m1.s, .int .i64 m1.n, .bool m1.hz, .int .i64 m1.z, .int .i64 q1.o, .int .i64 q1.s, .int .i64 q1.n] 47)).alloc (.cells #[.int .i64 29, .string t2, .bool g2, .slice a2 b2 c2, .int .i64 s2, .int .i64 m2.k, .int .i64 m2.y, .int .i64 m2.m, .int .i64 m2.d, .int .i64 m2.s, .int .i64 m2.n, .bool m2.hz, .int .i64 m2.z, .int .i64 q2.o, .int .i64 q2.s, .int .i64 q2.n] 47)) := ((Below.refl _ _).alloc (Nat.le_refl _) _).alloc (Below.alloc (Below.refl w.heap.size w) (Nat.le_refl _) _).size _
    have HB : Hid _ := hb0
    clear hb0
    go_enter Tryz.func28, Tryz.ntmps28
    go_wp2_with (go_at_call 53; refine Calls.mono (HC.out _) ?_; rintro e w9 ⟨rfl, hb9⟩)
    go_ret
    exact ⟨rfl, HB.out.trans (hb9.mono HB.out.size)⟩
  · clear h0 h1
    have hb0 : Below w.heap.size w ((w.alloc (.cells #[.int .i64 30, .string t1, .bool g1, .slice a1 b1 c1, .int .i64 s1, .int .i64 m1.k, .int .i64 m1.y, .int .i64 m1.m, .int .i64 m1.d, .int .i64 m1.s, .int .i64 m1.n, .bool m1.hz, .int .i64 m1.z, .int .i64 q1.o, .int .i64 q1.s, .int .i64 q1.n] 47)).alloc (.cells #[.int .i64 30, .string t2, .bool g2, .slice a2 b2 c2, .int .i64 s2, .int .i64 m2.k, .int .i64 m2.y, .int .i64 m2.m, .int .i64 m2.d, .int .i64 m2.s, .int .i64 m2.n, .bool m2.hz, .int .i64 m2.z, .int .i64 q2.o, .int .i64 q2.s, .int .i64 q2.n] 47)) := ((Below.refl _ _).alloc (Nat.le_refl _) _).alloc (Below.alloc (Below.refl w.heap.size w) (Nat.le_refl _) _).size _
    have HB : Hid _ := hb0
    clear hb0
    go_enter Tryz.func28, Tryz.ntmps28
    go_wp2_with (go_at_call 53; refine Calls.mono (HC.out _) ?_; rintro e w9 ⟨rfl, hb9⟩)
    go_ret
    exact ⟨rfl, HB.out.trans (hb9.mono HB.out.size)⟩
  · clear h0 h1
    have hb0 : Below w.heap.size w ((w.alloc (.cells #[.int .i64 31, .string t1, .bool g1, .slice a1 b1 c1, .int .i64 s1, .int .i64 m1.k, .int .i64 m1.y, .int .i64 m1.m, .int .i64 m1.d, .int .i64 m1.s, .int .i64 m1.n, .bool m1.hz, .int .i64 m1.z, .int .i64 q1.o, .int .i64 q1.s, .int .i64 q1.n] 47)).alloc (.cells #[.int .i64 31, .string t2, .bool g2, .slice a2 b2 c2, .int .i64 s2, .int .i64 m2.k, .int .i64 m2.y, .int .i64 m2.m, .int .i64 m2.d, .int .i64 m2.s, .int .i64 m2.n, .bool m2.hz, .int .i64 m2.z, .int .i64 q2.o, .int .i64 q2.s, .int .i64 q2.n] 47)) := ((Below.refl _ _).alloc (Nat.le_refl _) _).alloc (Below.alloc (Below.refl w.heap.size w) (Nat.le_refl _) _).size _
    have HB : Hid _ := hb0
    clear hb0
    go_enter Tryz.func28, Tryz.ntmps28
    go_wp2_with (go_at_call 53; refine Calls.mono (HC.out _) ?_; rintro e w9 ⟨rfl, hb9⟩)
    go_ret
    exact ⟨rfl, HB.out.trans (hb9.mono HB.out.size)⟩
theorem r_spn {s1 : Int} {t1 : ByteArray} {g1 : Bool} {a1 : Option Addr} {b1 c1 : Nat} {m1 : Dt.Mo} {q1 : Dt.Sp} {s2 : Int} {t2 : ByteArray} {g2 : Bool} {a2 : Option Addr} {b2 c2 : Nat} {m2 : Dt.Mo} {q2 : Dt.Sp} (l1 : Dt.SpT q1) (l2 : Dt.SpT q2) (w : World) : Calls Tryz.prog 28 #[vlV 32 t1 g1 (.slice a1 b1 c1) s1 m1 q1, vlV 32 t2 g2 (.slice a2 b2 c2) s2 m2 q2] w fun e w' => e = .returned (.int .i64 (Dt.cmpP q1 q2)) ∧ Below w.heap.size w w' := by
  have HC : Hid _ := fun W => Dt.cmpSpan_r q1 q2 W l1 l2
  clear l1 l2
  have hb0 : Below w.heap.size w ((w.alloc (.cells #[.int .i64 32, .string t1, .bool g1, .slice a1 b1 c1, .int .i64 s1, .int .i64 m1.k, .int .i64 m1.y, .int .i64 m1.m, .int .i64 m1.d, .int .i64 m1.s, .int .i64 m1.n, .bool m1.hz, .int .i64 m1.z, .int .i64 q1.o, .int .i64 q1.s, .int .i64 q1.n] 47)).alloc (.cells #[.int .i64 32, .string t2, .bool g2, .slice a2 b2 c2, .int .i64 s2, .int .i64 m2.k, .int .i64 m2.y, .int .i64 m2.m, .int .i64 m2.d, .int .i64 m2.s, .int .i64 m2.n, .bool m2.hz, .int .i64 m2.z, .int .i64 q2.o, .int .i64 q2.s, .int .i64 q2.n] 47)) := ((Below.refl _ _).alloc (Nat.le_refl _) _).alloc (Below.alloc (Below.refl w.heap.size w) (Nat.le_refl _) _).size _
  have HB : Hid _ := hb0
  clear hb0
  go_enter Tryz.func28, Tryz.ntmps28
  go_wp2_with (go_at_call 52; refine Calls.mono (HC.out _) ?_; rintro e w9 ⟨rfl, hb9⟩)
  go_ret
  exact ⟨rfl, HB.out.trans (hb9.mono HB.out.size)⟩
theorem r_any {w : World} {v1 v2 : Value} {d1 d2 : Kd} (h1 : VlA w v1 d1) (h2 : VlA w v2 d2) (o1 : KdOk d1) (o2 : KdOk d2) : Calls Tryz.prog 28 #[v1, v2] w fun e w' => e = .returned (.int .i64 (cmpD d1 d2)) ∧ Below w.heap.size w w' := by
  obtain ⟨a1, c1, rfl, b1⟩ := h1
  obtain ⟨a2, c2, rfl, b2⟩ := h2
  by_cases h : d1.pr = d2.pr
  · rcases same_c o1 o2 h with ⟨p, t, t', rfl, rfl⟩ | ⟨n, n', rfl, rfl⟩ | ⟨k, m, m', rfl, rfl⟩ | ⟨q, q', rfl, rfl⟩
    · have o1' : p = 1 ∨ p = 9 := o1
      have e : cmpD (.txt p t) (.txt p t') = if (t.toList == t'.toList) = true then 0 else 2 := by simp [cmpD]
      rw [e]
      cases hq : t.toList == t'.toList with
      | true =>
        rw [if_pos rfl]
        rcases o1' with rfl | rfl
        · exact r_t1y hq w
        · exact r_t9y hq w
      | false =>
        rw [if_neg (by simp)]
        rcases o1' with rfl | rfl
        · exact r_t1n hq w
        · exact r_t9n hq w
    · exact r_num w ⟨b1, o1.1, o1.2⟩ ⟨b2, o2.1, o2.2⟩
    · have e : cmpD (.mom k m) (.mom k m') = Dt.cmpM m m' := by simp [cmpD]
      rw [e]
      exact r_mom o1.1 o1.2.1 o1.2.2 o2.2.2 w
    · exact r_spn o1 o2 w
  · rw [cmp_pr o1 o2 h]
    exact r_ne h w
end Go.Proofs.YtgaegajcejpmdaaGreatDoor
namespace Go.Proofs.YtgaegajcejpmdaaGreatDoor
open Go.RowKit
set_option linter.unusedVariables false
set_option linter.unusedSimpArgs false

theorem parse_bad (k : Int) (s : ByteArray) (w : World) (hk : isK k = false) : Calls Tryz.prog 21 #[.int .i64 k, .string s] w fun e w' => e = .returned (.tuple #[vlV 0 ⟨#[]⟩ false (.slice none 0 0) 0 z0 sp0, .int .i64 1]) ∧ Below w.heap.size w w' := by
  have hbx := BX.new w 40 [.int .i64 0, .string ⟨#[]⟩, .bool false, .slice none 0 0, .int .i64 0, .int .i64 0, .int .i64 0, .int .i64 0, .int .i64 0, .int .i64 0, .int .i64 0, .bool false, .int .i64 0, .int .i64 0, .int .i64 0, .int .i64 0]
  have hA := nw_heap w (.cells #[.int .i64 0, .string ⟨#[]⟩, .bool false, .slice none 0 0, .int .i64 0, .int .i64 0, .int .i64 0, .int .i64 0, .int .i64 0, .int .i64 0, .int .i64 0, .bool false, .int .i64 0, .int .i64 0, .int .i64 0, .int .i64 0] 40)
  have HX : Hid _ := hbx
  clear hbx
  go_enter Tryz.func21, Tryz.ntmps21
  go_wp2_with (first | (go_at_call 33; refine (known_k _ _).mono ?_; rintro e w' ⟨rfl, hw1⟩; have hw2 := hw1.symm; clear hw1; subst hw2) | (refine wpList_store_row rfl 40 _ _ rfl w.heap.size _ rfl rfl 40 _ hA (by kernel_rfl) rfl (by simp [Value.oneCell']) ?_; rw [alloc_setRow]))
  exact bodyPost_ret (v := .tuple #[vlV 0 ⟨#[]⟩ false (.slice none 0 0) 0 z0 sp0, .int .i64 1]) (by refine (res2 (X := w.heap.size) Tryz.results21 ?_ HX.out.blk rfl).trans ?_ <;> rfl) rfl ⟨rfl, HX.out.bel⟩
theorem box_two (w : World) (x y : Obj) : ((w.alloc x).alloc y).heap[w.heap.size]? = some x ∧ ((w.alloc x).alloc y).heap[w.heap.size + 1]? = some y ∧ Below w.heap.size w ((w.alloc x).alloc y) := by
  have h1 := nw_heap w x
  have h2 := nw_heap (w.alloc x) y
  have hs : (w.alloc x).heap.size = w.heap.size + 1 := by simp
  have hb : Below (w.alloc x).heap.size (w.alloc x) ((w.alloc x).alloc y) := (Below.refl _ _).alloc (Nat.le_refl _) _
  have ha : Below w.heap.size w (w.alloc x) := (Below.refl _ _).alloc (Nat.le_refl _) _
  rw [hs] at h2
  exact ⟨(hb.block _ (by rw [hs]; omega)).trans h1, h2, ha.trans (hb.mono ha.size)⟩
set_option maxRecDepth 100000 in
set_option maxHeartbeats 1600000 in
theorem same_p {w : World} {v1 v2 : Value} {d1 d2 : Kd} (h1 : VlA w v1 d1) (h2 : VlA w v2 d2) (o1 : KdOk d1) (o2 : KdOk d2) : Calls Tryz.prog 26 #[v1, v2] w fun e w' => e = .returned (.bool (cmpD d1 d2 == 0)) ∧ Below w.heap.size w w' := by
  have hc := fun W (hW : Below w.heap.size w W) => p_any (h1.below hW) (h2.below hW) o1 o2
  obtain ⟨a1, c1, rfl, b1⟩ := h1
  obtain ⟨a2, c2, rfl, b2⟩ := h2
  generalize d1.pr = p1 at *
  generalize d1.tx = t1 at *
  generalize d1.nm.1 = g1 at *
  generalize d1.nm.2.1.length = b1x at *
  generalize ((d1.nm.2.2 : Nat) : Int) = s1 at *
  generalize d1.mo = m1 at *
  generalize d1.sp = q1 at *
  generalize d2.pr = p2 at *
  generalize d2.tx = t2 at *
  generalize d2.nm.1 = g2 at *
  generalize d2.nm.2.1.length = b2x at *
  generalize ((d2.nm.2.2 : Nat) : Int) = s2 at *
  generalize d2.mo = m2 at *
  generalize d2.sp = q2 at *
  generalize cmpD d1 d2 = x at *
  obtain ⟨hx, hy, hb⟩ := box_two w (.cells #[.int .i64 p1, .string t1, .bool g1, .slice a1 b1x c1, .int .i64 s1, .int .i64 m1.k, .int .i64 m1.y, .int .i64 m1.m, .int .i64 m1.d, .int .i64 m1.s, .int .i64 m1.n, .bool m1.hz, .int .i64 m1.z, .int .i64 q1.o, .int .i64 q1.s, .int .i64 q1.n] 40) (.cells #[.int .i64 p2, .string t2, .bool g2, .slice a2 b2x c2, .int .i64 s2, .int .i64 m2.k, .int .i64 m2.y, .int .i64 m2.m, .int .i64 m2.d, .int .i64 m2.s, .int .i64 m2.n, .bool m2.hz, .int .i64 m2.z, .int .i64 q2.o, .int .i64 q2.s, .int .i64 q2.n] 40)
  have HC : Hid _ := And.intro (hc _ hb) hb
  clear hc hb b1 b2 o1 o2
  go_enter Tryz.func26, Tryz.ntmps26
  go_wp2_with (first | (refine wpList_load_row rfl 40 _ rfl w.heap.size rfl 40 _ (0, 0) _ hx Tryz.underlying40 rfl (by kernel_rfl) ?_) | (refine wpList_load_row rfl 40 _ rfl (w.heap.size + 1) rfl 40 _ (0, 0) _ hy Tryz.underlying40 rfl (by kernel_rfl) ?_) | (go_at_call 27; refine Calls.mono HC.out.1 ?_; rintro e w9 ⟨rfl, hb9⟩))
  go_ret
  exact ⟨rfl, HC.out.2.trans (hb9.mono HC.out.2.size)⟩
theorem textT (p : Int) (h : p = 1 ∨ p = 9) (t : ByteArray) (g : Bool) (a : Option Addr) (b c : Nat) (s : Int) (m : Dt.Mo) (q : Dt.Sp) (w : World) : Calls Tryz.prog 24 #[vlV p t g (.slice a b c) s m q] w fun e w' => e = .returned (.string t) ∧ Below w.heap.size w w' := by
  have hb : Below w.heap.size w (w.alloc (.cells #[.int .i64 p, .string t, .bool g, .slice a b c, .int .i64 s, .int .i64 m.k, .int .i64 m.y, .int .i64 m.m, .int .i64 m.d, .int .i64 m.s, .int .i64 m.n, .bool m.hz, .int .i64 m.z, .int .i64 q.o, .int .i64 q.s, .int .i64 q.n] 40)) := (Below.refl _ _).alloc (Nat.le_refl _) _
  rcases h with rfl | rfl
  all_goals
    have HB : Hid _ := hb
    clear hb
    go_enter Tryz.func24, Tryz.ntmps24
    go_wp2_with fail
    go_ret
    exact ⟨rfl, HB.out⟩
/-- What a function leaves whose result is a value's box. -/
theorem res1 {W : World} {X : Nat} {cs : Array Value} {fn : Func} {p : Tmp} {tmps : Array Value} (hf : fn.results = #[.cell p 47]) (hp : tmps.getD p undef = .pointer (some ⟨X, 0, none⟩)) (h : W.heap[X]? = some (.cells cs 47 (0, 0))) (hs : cs.size = 16) :
    (results fn tmps).run Tryz.prog W = .ok (.agg cs) W := by
  have hl := run_loadVar_row (P := Tryz.prog) W X 47 47 cs (0, 0) _ h Tryz.underlying47 rfl (by rw [hs]; kernel_rfl)
  have hp' : tmps[p]?.getD undef = .pointer (some ⟨X, 0, none⟩) := by simpa using hp
  simp [results, hf, hp', asAddr, hl]
set_option maxRecDepth 100000 in
set_option maxHeartbeats 1600000 in
theorem of_l (p : Int) (t : ByteArray) (g : Bool) (a : Option Addr) (b c : Nat) (s : Int) (m : Dt.Mo) (q : Dt.Sp) (w : World) : Calls Tryz.prog 29 #[vlV p t g (.slice a b c) s m q] w fun e w' => e = .returned (vlV p t g (.slice a b c) s m q) ∧ Below w.heap.size w w' := by
  obtain ⟨hx, hy, hb⟩ := box_two w (.cells #[.int .i64 p, .string t, .bool g, .slice a b c, .int .i64 s, .int .i64 m.k, .int .i64 m.y, .int .i64 m.m, .int .i64 m.d, .int .i64 m.s, .int .i64 m.n, .bool m.hz, .int .i64 m.z, .int .i64 q.o, .int .i64 q.s, .int .i64 q.n] 40) (.cells #[.int .i64 0, .string ⟨#[]⟩, .bool false, .slice none 0 0, .int .i64 0, .int .i64 0, .int .i64 0, .int .i64 0, .int .i64 0, .int .i64 0, .int .i64 0, .bool false, .int .i64 0, .int .i64 0, .int .i64 0, .int .i64 0] 47)
  have hL0 := c16 hx
  obtain ⟨g0, g1, g2, g3, g4, g5, g6, g7, g8, g9, g10, g11, g12, g13, g14, g15⟩ := hL0
  have hb5 : Below w.heap.size w (((w.alloc (.cells #[.int .i64 p, .string t, .bool g, .slice a b c, .int .i64 s, .int .i64 m.k, .int .i64 m.y, .int .i64 m.m, .int .i64 m.d, .int .i64 m.s, .int .i64 m.n, .bool m.hz, .int .i64 m.z, .int .i64 q.o, .int .i64 q.s, .int .i64 q.n] 40)).alloc (.cells #[.int .i64 0, .string ⟨#[]⟩, .bool false, .slice none 0 0, .int .i64 0, .int .i64 0, .int .i64 0, .int .i64 0, .int .i64 0, .int .i64 0, .int .i64 0, .bool false, .int .i64 0, .int .i64 0, .int .i64 0, .int .i64 0] 47)).setRow (w.heap.size + 1) #[.int .i64 p, .string t, .bool g, .slice a b c, .int .i64 s, .int .i64 m.k, .int .i64 m.y, .int .i64 m.m, .int .i64 m.d, .int .i64 m.s, .int .i64 m.n, .bool m.hz, .int .i64 m.z, .int .i64 q.o, .int .i64 q.s, .int .i64 q.n]) := below_setRow hb (Nat.le_succ _) _
  have hf := setRow_heap _ (w.heap.size + 1) _ #[.int .i64 p, .string t, .bool g, .slice a b c, .int .i64 s, .int .i64 m.k, .int .i64 m.y, .int .i64 m.m, .int .i64 m.d, .int .i64 m.s, .int .i64 m.n, .bool m.hz, .int .i64 m.z, .int .i64 q.o, .int .i64 q.s, .int .i64 q.n] _ _ hy
  have HB : Hid _ := And.intro hb5 hf
  clear hb5 hf hx hb
  go_enter Tryz.func29, Tryz.ntmps29
  go_wp2_with (refine wpList_store_row rfl 47 _ _ rfl (w.heap.size + 1) _ rfl rfl 47 _ hy (by kernel_rfl) rfl (by simp [Value.oneCell']) ?_)
  exact bodyPost_ret (v := vlV p t g (.slice a b c) s m q) (by refine (res1 (X := w.heap.size + 1) Tryz.results29 ?_ HB.out.2 rfl).trans ?_ <;> rfl) rfl ⟨rfl, HB.out.1⟩
end Go.Proofs.YtgaegajcejpmdaaGreatDoor
namespace Go.Proofs.YtgaegajcejpmdaaGreatDoor
open Go.RowKit
set_option linter.unusedVariables false
set_option linter.unusedSimpArgs false

theorem cmpP_in (a b : Dt.Sp) : -1 ≤ Dt.cmpP a b ∧ Dt.cmpP a b ≤ 2 := by
  have := Dt.cmp4_in 1903 7 a b
  unfold Dt.cmpP
  dsimp only
  split <;> omega
theorem cmp_rev {a b : Kd} (ha : KdOk a) (hb : KdOk b) : (cmpD a b = 2 ∧ cmpD b a = 2) ∨ (cmpD a b ≠ 2 ∧ -1 ≤ cmpD a b ∧ cmpD a b ≤ 1 ∧ cmpD b a = -(cmpD a b)) := by
  by_cases h : a.pr = b.pr
  · rcases same_c ha hb h with ⟨p, t, t', rfl, rfl⟩ | ⟨n, n', rfl, rfl⟩ | ⟨k, m, m', rfl, rfl⟩ | ⟨q, q', rfl, rfl⟩
    · have e1 : cmpD (.txt p t) (.txt p t') = if (t.toList == t'.toList) = true then 0 else 2 := by simp [cmpD]
      have e2 : cmpD (.txt p t') (.txt p t) = if (t'.toList == t.toList) = true then 0 else 2 := by simp [cmpD]
      have e3 : (t'.toList == t.toList) = (t.toList == t'.toList) := by rw [Bool.eq_iff_iff]; simp only [beq_iff_eq]; exact ⟨Eq.symm, Eq.symm⟩
      rw [e1, e2, e3]
      split
      · right; omega
      · left; exact ⟨rfl, rfl⟩
    · have h1 := Dc.cmp_anti ha.1 hb.1
      have h2 := Dc.cmp_tri ha.1 hb.1
      right
      show Dc.cmpS n n' ≠ 2 ∧ -1 ≤ Dc.cmpS n n' ∧ Dc.cmpS n n' ≤ 1 ∧ Dc.cmpS n' n = -(Dc.cmpS n n')
      omega
    · have e1 : cmpD (.mom k m) (.mom k m') = Dt.cmpM m m' := by simp [cmpD]
      have e2 : cmpD (.mom k m') (.mom k m) = Dt.cmpM m' m := by simp [cmpD]
      have h1 := Dt.cmp_turn m m'
      have h2 := Dt.cmp_in m m'
      rw [e1, e2, h1]
      split <;> omega
    · have h1 := Dt.cmpP_turn q q'
      have h2 := cmpP_in q q'
      show (Dt.cmpP q q' = 2 ∧ Dt.cmpP q' q = 2) ∨ (Dt.cmpP q q' ≠ 2 ∧ -1 ≤ Dt.cmpP q q' ∧ Dt.cmpP q q' ≤ 1 ∧ Dt.cmpP q' q = -(Dt.cmpP q q'))
      rw [h1]
      split <;> omega
  · left
    exact ⟨cmp_pr ha hb h, cmp_pr hb ha (fun q => h q.symm)⟩
theorem tx_len {n : Dc.Nm} : (Dc.txS n).length ≤ n.2.1.length + 2 := by
  unfold Dc.txS
  cases n.1 <;> by_cases h : n.2.2 = 0 <;> simp [h] <;> omega
theorem num_txt {a b : Dc.Nm} (ha : Dc.CN a) (hb : Dc.CN b) (la : a.2.1.length ≤ 400) (lb : b.2.1.length ≤ 400) : (Dc.cmpS a b == 0) = ((Dc.sb (Dc.txS a)).toList == (Dc.sb (Dc.txS b)).toList) := by
  have hz := Dc.cmp_zero ha hb
  have l1 := tx_len (n := a)
  have l2 := tx_len (n := b)
  have p1 := Dc.par_tx ha (by omega)
  have p2 := Dc.par_tx hb (by omega)
  rw [Bool.eq_iff_iff]
  simp only [beq_iff_eq]
  rw [hz]
  constructor
  · rintro rfl; rfl
  · intro h
    have h1 : Dc.sb (Dc.txS a) = Dc.sb (Dc.txS b) := (Dc.tl_eq _ _).1 h
    have h2 : Dc.bl (Dc.sb (Dc.txS a)) = Dc.bl (Dc.sb (Dc.txS b)) := by rw [h1]
    rw [Dc.bl_sb (Dc.tx_byte ha.1.dg), Dc.bl_sb (Dc.tx_byte hb.1.dg)] at h2
    rw [h2, p2] at p1
    exact (Except.ok.inj p1).symm
/-- What is read, and its error, of any kind and text. -/
def oS (k : Int) (s : ByteArray) : Option Kd := if isK k = true then psS k s else none
def erS (k : Int) (s : ByteArray) : Int := if isK k = true then (if (psS k s).isSome = true then 0 else 2) else 1
theorem er_o (k : Int) (s : ByteArray) : (erS k s = 0 ∧ ∃ d, oS k s = some d ∧ isK k = true ∧ psS k s = some d) ∨ ((erS k s = 1 ∨ erS k s = 2) ∧ oS k s = none) := by
  unfold erS oS
  by_cases hk : isK k = true
  · rw [if_pos hk, if_pos hk]
    cases h : psS k s with
    | some d => left; exact ⟨by simp, d, rfl, hk, rfl⟩
    | none => right; exact ⟨.inr (by simp), rfl⟩
  · rw [if_neg hk, if_neg hk]
    right; exact ⟨.inl rfl, rfl⟩
/-- What Parse leaves, whatever came. -/
def PqP (k : Int) (s : ByteArray) (w : World) (e : Ending) (w' : World) : Prop :=
  Below w.heap.size w w' ∧ ∃ (p : Int) (tx : ByteArray) (ng : Bool) (a : Option Addr) (b c : Nat) (sc : Int) (m : Dt.Mo) (q : Dt.Sp), e = .returned (.tuple #[vlV p tx ng (.slice a b c) sc m q, .int .i64 (erS k s)]) ∧ ∀ d, oS k s = some d → VlA w' (vlV p tx ng (.slice a b c) sc m q) d
theorem parse_q (k : Int) (s : ByteArray) (w : World) (hs : s.size ≤ 100000) (hw : Lw w) : Calls Tryz.prog 21 #[.int .i64 k, .string s] w (PqP k s w) := by
  by_cases hk : isK k = true
  · refine (parse_a k s w hk hs hw).mono ?_
    rintro e w' ⟨hb, h⟩
    have e1 : oS k s = psS k s := by unfold oS; rw [if_pos hk]
    cases hp : psS k s with
    | some d =>
      rw [hp] at h
      obtain ⟨v, rfl, a, c, rfl, hbt⟩ := h
      have e2 : erS k s = 0 := by unfold erS; rw [if_pos hk, hp]; rfl
      refine ⟨hb, _, _, _, a, _, c, _, _, _, by rw [e2], fun d' hd => ?_⟩
      rw [e1, hp] at hd
      cases hd
      exact ⟨a, c, rfl, hbt⟩
    | none =>
      rw [hp] at h
      have e2 : erS k s = 2 := by unfold erS; rw [if_pos hk, hp]; rfl
      refine ⟨hb, 0, ⟨#[]⟩, false, none, 0, 0, 0, z0, sp0, by rw [e2]; exact h, fun d hd => ?_⟩
      rw [e1, hp] at hd
      cases hd
  · have hk' : isK k = false := by simpa using hk
    refine (parse_bad k s w hk').mono ?_
    rintro e w' ⟨rfl, hb⟩
    have e2 : erS k s = 1 := by unfold erS; rw [if_neg hk]
    refine ⟨hb, 0, ⟨#[]⟩, false, none, 0, 0, 0, z0, sp0, by rw [e2], fun d hd => ?_⟩
    unfold oS at hd
    rw [if_neg hk] at hd
    cases hd
theorem ps_len {k : Int} {s : ByteArray} {n : Dc.Nm} (h : psS k s = some (.num n)) : n.2.1.length ≤ s.size := by
  unfold psS rdS at h
  split at h
  · split at h <;> cases h
  · split at h
    · obtain ⟨t, _, q⟩ := Option.map_eq_some_iff.1 h
      cases q
    · split at h
      · cases hq : Dc.parS (Dc.bl (Ch.spc s (whS k))) with
        | error x => rw [hq] at h; cases h
        | ok n' =>
          rw [hq] at h
          dsimp only at h
          split at h
          · cases h
            have := (Dc.par_ok hq).2.1
            rw [Dc.bl_len] at this
            exact Nat.le_trans this (spc_size s _)
          · cases h
      · split at h
        · obtain ⟨t, _, q⟩ := Option.map_eq_some_iff.1 h
          cases q
        · obtain ⟨t, _, q⟩ := Option.map_eq_some_iff.1 h
          cases q
end Go.Proofs.YtgaegajcejpmdaaGreatDoor
namespace Go.Proofs.YtgaegajcejpmdaaGreatDoor
open Go.RowKit
set_option linter.unusedVariables false

def Wht (l : List Int) : Prop := ∀ c ∈ l, Ch.isWhite c = true
theorem Wht.nil : Wht [] := by intro c hc; simp at hc
theorem Wht.app {a b : List Int} (ha : Wht a) (hb : Wht b) : Wht (a ++ b) := by
  intro c hc
  rcases List.mem_append.1 hc with h | h
  · exact ha c h
  · exact hb c h
theorem col_gap (l : List Int) : Ch.col l [] true = Ch.col l [] false := by
  cases l with
  | nil => rfl
  | cons c l => simp [Ch.col]
theorem col_front (b l : List Int) (h : Wht b) (g : Bool) : Ch.col (b ++ l) [] g = Ch.col l [] false := by
  induction b generalizing g with
  | nil => cases g with
    | false => rfl
    | true => exact col_gap l
  | cons c b ih =>
    rw [List.cons_append]
    simp only [Ch.col]
    rw [if_pos (h c (by simp))]
    exact ih (fun x hx => h x (by simp [hx])) true
theorem col_white (b : List Int) (h : Wht b) (out : List Int) (g : Bool) : Ch.col b out g = out := by
  induction b generalizing g with
  | nil => rfl
  | cons c b ih =>
    simp only [Ch.col]
    rw [if_pos (h c (by simp))]
    exact ih (fun x hx => h x (by simp [hx])) true
theorem col_back (b : List Int) (h : Wht b) (l out : List Int) (g : Bool) : Ch.col (l ++ b) out g = Ch.col l out g := by
  induction l generalizing out g with
  | nil => exact col_white b h out g
  | cons c l ih =>
    rw [List.cons_append]
    simp only [Ch.col]
    split
    · exact ih out true
    · split
      · exact ih _ false
      · exact ih _ false
theorem spc_about {b s : ByteArray} (h : Wht (Ch.bl b)) : Ch.spc (b ++ s ++ b) 3 = Ch.spc s 3 := by
  unfold Ch.spc
  rw [if_neg (by decide), if_pos rfl, if_neg (by decide), if_pos rfl, Ch.bl_app, Ch.bl_app, List.append_assoc, col_front _ _ h, col_back _ h]
theorem ps_about {b s : ByteArray} {k : Int} (hk : whS k = 3) (h : Wht (Ch.bl b)) : psS k (b ++ s ++ b) = psS k s := by
  unfold psS
  rw [hk, spc_about h]
theorem cmp_self {d : Kd} (h : KdOk d) : cmpD d d = 0 := by
  cases d with
  | txt p t => simp [cmpD]
  | num n => exact (Dc.cmp_zero h.1 h.1).2 rfl
  | mom k m => simp [cmpD, Dt.cmp_self]
  | spn q => exact Dt.cmpP_self q
theorem er_about {b s : ByteArray} {k : Int} (hk : whS k = 3) (h : Wht (Ch.bl b)) : erS k (b ++ s ++ b) = erS k s := by
  unfold erS
  rw [ps_about hk h]
theorem o_about {b s : ByteArray} {k : Int} (hk : whS k = 3) (h : Wht (Ch.bl b)) : oS k (b ++ s ++ b) = oS k s := by
  unfold oS
  rw [ps_about hk h]
/-- The four blanks. -/
def blk4 (n : Nat) : ByteArray := if n = 0 then ⟨#[32]⟩ else if n = 1 then ⟨#[9]⟩ else if n = 2 then ⟨#[10]⟩ else ⟨#[13]⟩
theorem wht_one {b : ByteArray} (h : Wht (Ch.bl b)) (n : Nat) : Wht (Ch.bl (b ++ blk4 n)) := by
  rw [Ch.bl_app]
  refine h.app ?_
  unfold blk4
  intro c hc
  split at hc
  · simp [Ch.bl] at hc; rw [hc]; decide
  · split at hc
    · simp [Ch.bl] at hc; rw [hc]; decide
    · split at hc
      · simp [Ch.bl] at hc; rw [hc]; decide
      · simp [Ch.bl] at hc; rw [hc]; decide
theorem blk_size (b : ByteArray) (n : Nat) : (b ++ blk4 n).size = b.size + 1 := by
  have : (blk4 n).size = 1 := by
    unfold blk4
    split
    · rfl
    · split
      · rfl
      · split <;> rfl
  rw [ByteArray.size_append, this]
end Go.Proofs.YtgaegajcejpmdaaGreatDoor
namespace Go.Proofs.YtgaegajcejpmdaaGreatDoor
open Go.RowKit
set_option linter.unusedVariables false
set_option linter.unusedSimpArgs false

def sShort : ByteArray := ⟨#[115, 104, 111, 114, 116]⟩
def sFloat : ByteArray := ⟨#[102, 108, 111, 97, 116]⟩
def sA : ByteArray := ⟨#[32, 45, 51, 50, 55, 54, 56, 32]⟩
def sB : ByteArray := ⟨#[51, 50, 55, 54, 56]⟩
theorem fd_short : fdS sShort = (18, 0) := by simp [fdS, fdF, nmL, sShort, tlm]
theorem fd_float : fdS sFloat = (0, 6) := by simp [fdS, fdF, nmL, sFloat, tlm, odS, odL]
theorem sp_A : Dc.bl (Ch.spc sA 3) = [45, 51, 50, 55, 54, 56] := by rfl
theorem sp_B : Dc.bl (Ch.spc sB 3) = [51, 50, 55, 54, 56] := by rfl
theorem pa_A : Dc.parS (Dc.bl (Ch.spc sA 3)) = .ok (true, [3, 2, 7, 6, 8], 0) := by rw [sp_A]; rfl
theorem pa_B : Dc.parS (Dc.bl (Ch.spc sB 3)) = .ok (false, [3, 2, 7, 6, 8], 0) := by rw [sp_B]; rfl
theorem cn_A : cntB 18 (Dc.bl (Ch.spc sA 3)) (true, [3, 2, 7, 6, 8], 0) = true := by rw [sp_A]; rfl
theorem cn_B : cntB 18 (Dc.bl (Ch.spc sB 3)) (false, [3, 2, 7, 6, 8], 0) = false := by rw [sp_B]; rfl
theorem tx_A : Dc.sb (Dc.txS (true, [3, 2, 7, 6, 8], 0)) = ⟨#[45, 51, 50, 55, 54, 56]⟩ := by rfl
theorem dv_k : dvS 18 11 = true := by decide
theorem nm_7 : nmS 7 = ⟨#[73, 68]⟩ := by rfl
theorem pA (w : World) (hw : Lw w) : Calls Tryz.prog 21 #[.int .i64 18, .string ⟨#[32, 45, 51, 50, 55, 54, 56, 32]⟩] w fun e w' => ∃ va vc, e = .returned (.tuple #[vlV 10 ⟨#[]⟩ true (.slice va 5 vc) 0 z0 sp0, .int .i64 0]) ∧ Dc.NmR w' (.slice va 5 vc) (true, [3, 2, 7, 6, 8], 0) ∧ Below w.heap.size w w' := by
  have h := parseN 18 sA w (by omega) (by omega) (by decide) (by decide) hw pa_A
  rw [cn_A] at h
  refine h.mono ?_
  rintro e w' ⟨hb, h1, _⟩
  obtain ⟨p, tx, ng, sl, l, sc, m, q, rfl, hbt, rfl, rfl, rfl, rfl, rfl, rfl, rfl⟩ := h1 rfl
  obtain ⟨va, vc, rfl, _⟩ := hbt.form
  exact ⟨va, vc, rfl, ⟨hbt, (Dc.par_ok pa_A).1, (Dc.par_ok pa_A).2.2.1⟩, hb⟩
theorem pB (w : World) (hw : Lw w) : Calls Tryz.prog 21 #[.int .i64 18, .string ⟨#[51, 50, 55, 54, 56]⟩] w fun e w' => e = .returned (.tuple #[vlV 0 ⟨#[]⟩ false (.slice none 0 0) 0 z0 sp0, .int .i64 2]) ∧ Below w.heap.size w w' := by
  have h := parseN 18 sB w (by omega) (by omega) (by decide) (by decide) hw pa_B
  rw [cn_B] at h
  refine h.mono ?_
  rintro e w' ⟨hb, _, h2⟩
  exact ⟨h2 rfl, hb⟩
theorem fS (w : World) (hw : Lw w) : Calls Tryz.prog 9 #[.string ⟨#[115, 104, 111, 114, 116]⟩] w fun e w' => e = .returned (.tuple #[.int .i64 18, .int .i64 0]) ∧ w' = w := by
  have h := find_k sShort w hw.nm
  rw [fd_short] at h
  exact h
theorem fF (w : World) (hw : Lw w) : Calls Tryz.prog 9 #[.string ⟨#[102, 108, 111, 97, 116]⟩] w fun e w' => e = .returned (.tuple #[.int .i64 0, .int .i64 6]) ∧ w' = w := by
  have h := find_k sFloat w hw.nm
  rw [fd_float] at h
  exact h
theorem n7 (w : World) (hw : Lw w) : Calls Tryz.prog 11 #[.int .i64 7] w fun e w' => e = .returned (.string ⟨#[73, 68]⟩) ∧ w' = w := by
  have h := name_k 7 w hw.nm
  rw [nm_7] at h
  exact h
theorem d18 (w : World) : Calls Tryz.prog 19 #[.int .i64 18, .int .i64 11] w fun e w' => e = .returned (.bool true) ∧ w' = w := by
  have h := derived_k 18 11 w
  rw [dv_k] at h
  exact h
end Go.Proofs.YtgaegajcejpmdaaGreatDoor
namespace Go.Proofs.YtgaegajcejpmdaaGreatDoor
open Go.RowKit
set_option linter.unusedVariables false
set_option linter.unusedSimpArgs false

theorem p18 (w : World) : Calls Tryz.prog 15 #[.int .i64 18] w fun e w' => e = .returned (.int .i64 10) ∧ w' = w := prim10 18 (by omega) (by omega) w
theorem tA {w : World} {va : Option Addr} {vc : Nat} (h : Dc.NmR w (.slice va 5 vc) (true, [3, 2, 7, 6, 8], 0)) : Calls Tryz.prog 32 #[.agg #[.bool true, .slice va 5 vc, .int .i64 0]] w fun e w' => e = .returned (.string ⟨#[45, 51, 50, 55, 54, 56]⟩) ∧ Below w.heap.size w w' := by
  have := Dc.text_p h
  rw [tx_A] at this
  exact this
theorem tB {w : World} {va : Option Addr} {vc : Nat} (h : Dc.NmR w (.slice va 5 vc) (true, [3, 2, 7, 6, 8], 0)) : Calls Tryz.prog 24 #[.agg #[.int .i64 10, .string ⟨#[]⟩, .bool true, .slice va 5 vc, .int .i64 0, .int .i64 0, .int .i64 0, .int .i64 0, .int .i64 0, .int .i64 0, .int .i64 0, .bool false, .int .i64 0, .int .i64 0, .int .i64 0, .int .i64 0]] w fun e w' => e = .returned (.string ⟨#[45, 51, 50, 55, 54, 56]⟩) ∧ Below w.heap.size w w' := by
  have := textN ⟨#[]⟩ z0 sp0 h
  rw [tx_A] at this
  exact this
set_option maxRecDepth 100000 in
set_option maxHeartbeats 6400000 in
theorem known_l (w : World) (hw : Lw w) : Calls Tryz.prog 8 #[] w fun e w' => e = .returned (.bool true) ∧ Below w.heap.size w w' := by
  go_enter Tryz.func8, Tryz.ntmps8
  go_wp2_with (go_at_call 9; (with_reducible refine Calls.mono (fS _ hw) ?_); rintro e w8 ⟨rfl, hw1⟩; have hw2 := hw1.symm; clear hw1; subst hw2)
  refine Calls.mono (pA _ hw) ?_
  rintro e w2 ⟨va, vc, rfl, hn, hb2⟩
  have hbx := BX.new w2 40 [.int .i64 10, .string ⟨#[]⟩, .bool true, .slice va 5 vc, .int .i64 0, .int .i64 0, .int .i64 0, .int .i64 0, .int .i64 0, .int .i64 0, .int .i64 0, .bool false, .int .i64 0, .int .i64 0, .int .i64 0, .int .i64 0]
  have hbU := hb2.trans (hbx.bel.mono hb2.size)
  have hnU := hn.below hbx.bel
  have HU : Hid _ := And.intro hbU (And.intro hnU hbx.blk)
  clear hn hb2 hbU hnU hbx
  go_wp2_with (refine wpList_store_row rfl 40 _ _ rfl _ _ rfl rfl 40 _ (nw_heap _ _) (by kernel_rfl) rfl (by simp [Value.oneCell']) ?_; rw [alloc_setRow])
  have hU1 := HU.out.1
  have hU2 := HU.out.2.1
  have hU3 := HU.out.2.2
  clear HU
  generalize w2.alloc (.cells #[.int .i64 10, .string ⟨#[]⟩, .bool true, .slice va 5 vc, .int .i64 0, .int .i64 0, .int .i64 0, .int .i64 0, .int .i64 0, .int .i64 0, .int .i64 0, .bool false, .int .i64 0, .int .i64 0, .int .i64 0, .int .i64 0] 40) = U at *
  refine Calls.mono (pB _ (hw.below hU1)) ?_
  rintro e w4 ⟨rfl, hb4⟩
  have hby := BX.new w4 40 [.int .i64 0, .string ⟨#[]⟩, .bool false, .slice none 0 0, .int .i64 0, .int .i64 0, .int .i64 0, .int .i64 0, .int .i64 0, .int .i64 0, .int .i64 0, .bool false, .int .i64 0, .int .i64 0, .int .i64 0, .int .i64 0]
  have hb5 := hb4.trans (hby.bel.mono hb4.size)
  have HV : Hid _ := And.intro (hU1.trans (hb5.mono hU1.size)) (And.intro (hU2.below hb5) ((hb5.block _ (Dc.lt_of hU3)).trans hU3))
  clear hU1 hU2 hU3 hb4 hby hb5
  have hw5 := hw.below HV.out.1
  have HW5 : Hid _ := hw5
  clear hw5
  go_upto_region 5 with (first | (refine wpList_store_row rfl 40 _ _ rfl _ _ rfl rfl 40 _ (nw_heap _ _) (by kernel_rfl) rfl (by simp [Value.oneCell']) ?_; rw [alloc_setRow]) | (go_at_call 9; (with_reducible refine Calls.mono (fF _ HW5.out) ?_); rintro e w8 ⟨rfl, hw1⟩; have hw2 := hw1.symm; clear hw1; subst hw2))
  generalize w4.alloc (.cells #[.int .i64 0, .string ⟨#[]⟩, .bool false, .slice none 0 0, .int .i64 0, .int .i64 0, .int .i64 0, .int .i64 0, .int .i64 0, .int .i64 0, .int .i64 0, .bool false, .int .i64 0, .int .i64 0, .int .i64 0, .int .i64 0] 40) = V at *
  have HK : Hid (∀ W, Below V.heap.size V W → W.heap[w2.heap.size]? = some (.cells #[.int .i64 10, .string ⟨#[]⟩, .bool true, .slice va 5 vc, .int .i64 0, .int .i64 0, .int .i64 0, .int .i64 0, .int .i64 0, .int .i64 0, .int .i64 0, .bool false, .int .i64 0, .int .i64 0, .int .i64 0, .int .i64 0] 40 (0, 0))) := fun W hW => (hW.block _ (Dc.lt_of HV.out.2.2)).trans HV.out.2.2
  obtain ⟨g0, g1, g2, g3, g4, g5, g6, g7, g8, g9, g10, g11, g12, g13, g14, g15⟩ := c16 HV.out.2.2
  have HB : Hid (Below V.heap.size V V) := Below.refl _ _
  go_wp2_with (first
    | (go_at_call 32; (with_reducible refine Calls.mono (tA (HV.out.2.1.below HB.out)) ?_); rintro e w9 ⟨rfl, hb9⟩; have hbb := HB.out.trans (hb9.mono HB.out.size); clear HB g0 g1 g2 g3 g4 g5 g6 g7 g8 g9 g10 g11 g12 g13 g14 g15; obtain ⟨g0, g1, g2, g3, g4, g5, g6, g7, g8, g9, g10, g11, g12, g13, g14, g15⟩ := c16 (HK.out _ hbb); have HB : Hid _ := hbb; clear hbb hb9)
    | (go_at_call 19; (with_reducible refine Calls.mono (d18 _) ?_); rintro e w8 ⟨rfl, hw1⟩; have hw2 := hw1.symm; clear hw1; subst hw2)
    | (go_at_call 15; (with_reducible refine Calls.mono (p18 _) ?_); rintro e w8 ⟨rfl, hw1⟩; have hw2 := hw1.symm; clear hw1; subst hw2)
    | (go_at_call 11; (with_reducible refine Calls.mono (n7 _ (HW5.out.below HB.out)) ?_); rintro e w8 ⟨rfl, hw1⟩; have hw2 := hw1.symm; clear hw1; subst hw2)
    | (go_at_call 24; (with_reducible refine Calls.mono (tB (HV.out.2.1.below HB.out)) ?_); rintro e w9 ⟨rfl, hb9⟩; have hbb := HB.out.trans (hb9.mono HB.out.size); clear HB g0 g1 g2 g3 g4 g5 g6 g7 g8 g9 g10 g11 g12 g13 g14 g15; obtain ⟨g0, g1, g2, g3, g4, g5, g6, g7, g8, g9, g10, g11, g12, g13, g14, g15⟩ := c16 (HK.out _ hbb); have HB : Hid _ := hbb; clear hbb hb9))
  go_ret
  exact ⟨rfl, HV.out.1.trans (HB.out.mono HV.out.1.size)⟩
end Go.Proofs.YtgaegajcejpmdaaGreatDoor
