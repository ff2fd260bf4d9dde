/- Joined: HK25, HK26, HK27, HChColMath. -/
import Derived.Test.YtgaegajcejpmdaaGreatDoorHJ35
import Derived.Test.YtgaegajcejpmdaaGreatDoorHDtQr4
import Derived.Test.YtgaegajcejpmdaaGreatDoorHDcC2
import Derived.Test.YtgaegajcejpmdaaGreatDoorHK24
import Derived.Test.YtgaegajcejpmdaaGreatDoorHJ22
namespace Go.Proofs.YtgaegajcejpmdaaGreatDoor
open Go.RowKit
set_option linter.unusedVariables false
set_option linter.unusedSimpArgs false

theorem r_ne {p1 s1 : Int} {t1 : ByteArray} {g1 : Bool} {a1 : Option Addr} {b1 c1 : Nat} {m1 : Dt.Mo} {q1 : Dt.Sp} {p2 s2 : Int} {t2 : ByteArray} {g2 : Bool} {a2 : Option Addr} {b2 c2 : Nat} {m2 : Dt.Mo} {q2 : Dt.Sp} (h : p1 ≠ p2) (w : World) : Calls Tryz.prog 28 #[vlV p1 t1 g1 (.slice a1 b1 c1) s1 m1 q1, vlV p2 t2 g2 (.slice a2 b2 c2) s2 m2 q2] w fun e w' => e = .returned (.int .i64 2) ∧ Below w.heap.size w w' := by
  have hb0 : Below w.heap.size w ((w.alloc (.cells #[.int .i64 p1, .string t1, .bool g1, .slice a1 b1 c1, .int .i64 s1, .int .i64 m1.k, .int .i64 m1.y, .int .i64 m1.m, .int .i64 m1.d, .int .i64 m1.s, .int .i64 m1.n, .bool m1.hz, .int .i64 m1.z, .int .i64 q1.o, .int .i64 q1.s, .int .i64 q1.n] 47)).alloc (.cells #[.int .i64 p2, .string t2, .bool g2, .slice a2 b2 c2, .int .i64 s2, .int .i64 m2.k, .int .i64 m2.y, .int .i64 m2.m, .int .i64 m2.d, .int .i64 m2.s, .int .i64 m2.n, .bool m2.hz, .int .i64 m2.z, .int .i64 q2.o, .int .i64 q2.s, .int .i64 q2.n] 47)) := ((Below.refl _ _).alloc (Nat.le_refl _) _).alloc (Below.alloc (Below.refl w.heap.size w) (Nat.le_refl _) _).size _
  have HB : Hid _ := hb0
  clear hb0
  have hne : (p1 != p2) = true := by simpa using h
  have hne2 : (p1 == p2) = false := by simpa using h
  clear h
  go_enter Tryz.func28, Tryz.ntmps28
  go_wp2_with fail
  go_ret
  exact ⟨rfl, HB.out⟩
theorem r_t1y {s1 : Int} {t1 : ByteArray} {g1 : Bool} {a1 : Option Addr} {b1 c1 : Nat} {m1 : Dt.Mo} {q1 : Dt.Sp} {s2 : Int} {t2 : ByteArray} {g2 : Bool} {a2 : Option Addr} {b2 c2 : Nat} {m2 : Dt.Mo} {q2 : Dt.Sp} (h : (t1.toList == t2.toList) = true) (w : World) : Calls Tryz.prog 28 #[vlV 1 t1 g1 (.slice a1 b1 c1) s1 m1 q1, vlV 1 t2 g2 (.slice a2 b2 c2) s2 m2 q2] w fun e w' => e = .returned (.int .i64 0) ∧ Below w.heap.size w w' := by
  have hb0 : Below w.heap.size w ((w.alloc (.cells #[.int .i64 1, .string t1, .bool g1, .slice a1 b1 c1, .int .i64 s1, .int .i64 m1.k, .int .i64 m1.y, .int .i64 m1.m, .int .i64 m1.d, .int .i64 m1.s, .int .i64 m1.n, .bool m1.hz, .int .i64 m1.z, .int .i64 q1.o, .int .i64 q1.s, .int .i64 q1.n] 47)).alloc (.cells #[.int .i64 1, .string t2, .bool g2, .slice a2 b2 c2, .int .i64 s2, .int .i64 m2.k, .int .i64 m2.y, .int .i64 m2.m, .int .i64 m2.d, .int .i64 m2.s, .int .i64 m2.n, .bool m2.hz, .int .i64 m2.z, .int .i64 q2.o, .int .i64 q2.s, .int .i64 q2.n] 47)) := ((Below.refl _ _).alloc (Nat.le_refl _) _).alloc (Below.alloc (Below.refl w.heap.size w) (Nat.le_refl _) _).size _
  have HB : Hid _ := hb0
  clear hb0
  go_enter Tryz.func28, Tryz.ntmps28
  go_wp2_with fail
  go_ret
  exact ⟨rfl, HB.out⟩
theorem r_t1n {s1 : Int} {t1 : ByteArray} {g1 : Bool} {a1 : Option Addr} {b1 c1 : Nat} {m1 : Dt.Mo} {q1 : Dt.Sp} {s2 : Int} {t2 : ByteArray} {g2 : Bool} {a2 : Option Addr} {b2 c2 : Nat} {m2 : Dt.Mo} {q2 : Dt.Sp} (h : (t1.toList == t2.toList) = false) (w : World) : Calls Tryz.prog 28 #[vlV 1 t1 g1 (.slice a1 b1 c1) s1 m1 q1, vlV 1 t2 g2 (.slice a2 b2 c2) s2 m2 q2] w fun e w' => e = .returned (.int .i64 2) ∧ Below w.heap.size w w' := by
  have hb0 : Below w.heap.size w ((w.alloc (.cells #[.int .i64 1, .string t1, .bool g1, .slice a1 b1 c1, .int .i64 s1, .int .i64 m1.k, .int .i64 m1.y, .int .i64 m1.m, .int .i64 m1.d, .int .i64 m1.s, .int .i64 m1.n, .bool m1.hz, .int .i64 m1.z, .int .i64 q1.o, .int .i64 q1.s, .int .i64 q1.n] 47)).alloc (.cells #[.int .i64 1, .string t2, .bool g2, .slice a2 b2 c2, .int .i64 s2, .int .i64 m2.k, .int .i64 m2.y, .int .i64 m2.m, .int .i64 m2.d, .int .i64 m2.s, .int .i64 m2.n, .bool m2.hz, .int .i64 m2.z, .int .i64 q2.o, .int .i64 q2.s, .int .i64 q2.n] 47)) := ((Below.refl _ _).alloc (Nat.le_refl _) _).alloc (Below.alloc (Below.refl w.heap.size w) (Nat.le_refl _) _).size _
  have HB : Hid _ := hb0
  clear hb0
  go_enter Tryz.func28, Tryz.ntmps28
  go_wp2_with fail
  go_ret
  exact ⟨rfl, HB.out⟩
theorem r_t9y {s1 : Int} {t1 : ByteArray} {g1 : Bool} {a1 : Option Addr} {b1 c1 : Nat} {m1 : Dt.Mo} {q1 : Dt.Sp} {s2 : Int} {t2 : ByteArray} {g2 : Bool} {a2 : Option Addr} {b2 c2 : Nat} {m2 : Dt.Mo} {q2 : Dt.Sp} (h : (t1.toList == t2.toList) = true) (w : World) : Calls Tryz.prog 28 #[vlV 9 t1 g1 (.slice a1 b1 c1) s1 m1 q1, vlV 9 t2 g2 (.slice a2 b2 c2) s2 m2 q2] w fun e w' => e = .returned (.int .i64 0) ∧ Below w.heap.size w w' := by
  have hb0 : Below w.heap.size w ((w.alloc (.cells #[.int .i64 9, .string t1, .bool g1, .slice a1 b1 c1, .int .i64 s1, .int .i64 m1.k, .int .i64 m1.y, .int .i64 m1.m, .int .i64 m1.d, .int .i64 m1.s, .int .i64 m1.n, .bool m1.hz, .int .i64 m1.z, .int .i64 q1.o, .int .i64 q1.s, .int .i64 q1.n] 47)).alloc (.cells #[.int .i64 9, .string t2, .bool g2, .slice a2 b2 c2, .int .i64 s2, .int .i64 m2.k, .int .i64 m2.y, .int .i64 m2.m, .int .i64 m2.d, .int .i64 m2.s, .int .i64 m2.n, .bool m2.hz, .int .i64 m2.z, .int .i64 q2.o, .int .i64 q2.s, .int .i64 q2.n] 47)) := ((Below.refl _ _).alloc (Nat.le_refl _) _).alloc (Below.alloc (Below.refl w.heap.size w) (Nat.le_refl _) _).size _
  have HB : Hid _ := hb0
  clear hb0
  go_enter Tryz.func28, Tryz.ntmps28
  go_wp2_with fail
  go_ret
  exact ⟨rfl, HB.out⟩
theorem r_t9n {s1 : Int} {t1 : ByteArray} {g1 : Bool} {a1 : Option Addr} {b1 c1 : Nat} {m1 : Dt.Mo} {q1 : Dt.Sp} {s2 : Int} {t2 : ByteArray} {g2 : Bool} {a2 : Option Addr} {b2 c2 : Nat} {m2 : Dt.Mo} {q2 : Dt.Sp} (h : (t1.toList == t2.toList) = false) (w : World) : Calls Tryz.prog 28 #[vlV 9 t1 g1 (.slice a1 b1 c1) s1 m1 q1, vlV 9 t2 g2 (.slice a2 b2 c2) s2 m2 q2] w fun e w' => e = .returned (.int .i64 2) ∧ Below w.heap.size w w' := by
  have hb0 : Below w.heap.size w ((w.alloc (.cells #[.int .i64 9, .string t1, .bool g1, .slice a1 b1 c1, .int .i64 s1, .int .i64 m1.k, .int .i64 m1.y, .int .i64 m1.m, .int .i64 m1.d, .int .i64 m1.s, .int .i64 m1.n, .bool m1.hz, .int .i64 m1.z, .int .i64 q1.o, .int .i64 q1.s, .int .i64 q1.n] 47)).alloc (.cells #[.int .i64 9, .string t2, .bool g2, .slice a2 b2 c2, .int .i64 s2, .int .i64 m2.k, .int .i64 m2.y, .int .i64 m2.m, .int .i64 m2.d, .int .i64 m2.s, .int .i64 m2.n, .bool m2.hz, .int .i64 m2.z, .int .i64 q2.o, .int .i64 q2.s, .int .i64 q2.n] 47)) := ((Below.refl _ _).alloc (Nat.le_refl _) _).alloc (Below.alloc (Below.refl w.heap.size w) (Nat.le_refl _) _).size _
  have HB : Hid _ := hb0
  clear hb0
  go_enter Tryz.func28, Tryz.ntmps28
  go_wp2_with fail
  go_ret
  exact ⟨rfl, HB.out⟩
theorem r_num {n1 n2 : Dc.Nm} {a1 a2 : Option Addr} {c1 c2 : Nat} {t1 t2 : ByteArray} {m1 m2 : Dt.Mo} {q1 q2 : Dt.Sp} (w : World) (h1 : Dc.NmR w (.slice a1 n1.2.1.length c1) n1) (h2 : Dc.NmR w (.slice a2 n2.2.1.length c2) n2) : Calls Tryz.prog 28 #[vlV 10 t1 n1.1 (.slice a1 n1.2.1.length c1) n1.2.2 m1 q1, vlV 10 t2 n2.1 (.slice a2 n2.2.1.length c2) n2.2.2 m2 q2] w fun e w' => e = .returned (.int .i64 (Dc.cmpS n1 n2)) ∧ Below w.heap.size w w' := by
  have hb0 : Below w.heap.size w ((w.alloc (.cells #[.int .i64 10, .string t1, .bool n1.1, .slice a1 n1.2.1.length c1, .int .i64 n1.2.2, .int .i64 m1.k, .int .i64 m1.y, .int .i64 m1.m, .int .i64 m1.d, .int .i64 m1.s, .int .i64 m1.n, .bool m1.hz, .int .i64 m1.z, .int .i64 q1.o, .int .i64 q1.s, .int .i64 q1.n] 47)).alloc (.cells #[.int .i64 10, .string t2, .bool n2.1, .slice a2 n2.2.1.length c2, .int .i64 n2.2.2, .int .i64 m2.k, .int .i64 m2.y, .int .i64 m2.m, .int .i64 m2.d, .int .i64 m2.s, .int .i64 m2.n, .bool m2.hz, .int .i64 m2.z, .int .i64 q2.o, .int .i64 q2.s, .int .i64 q2.n] 47)) := ((Below.refl _ _).alloc (Nat.le_refl _) _).alloc (Below.alloc (Below.refl w.heap.size w) (Nat.le_refl _) _).size _
  have HB : Hid _ := hb0
  clear hb0
  have HN : Hid _ := And.intro (h1.below HB.out) (h2.below HB.out)
  clear h1 h2
  go_enter Tryz.func28, Tryz.ntmps28
  go_wp2_with (go_at_call 51; refine Calls.mono (Dc.cmp_r HN.out.1 HN.out.2) ?_; rintro e w9 ⟨rfl, hb9⟩)
  go_ret
  exact ⟨rfl, HB.out.trans (hb9.mono HB.out.size)⟩
set_option maxRecDepth 100000 in
set_option maxHeartbeats 3200000 in
theorem r_mom {p1 s1 : Int} {t1 : ByteArray} {g1 : Bool} {a1 : Option Addr} {b1 c1 : Nat} {m1 : Dt.Mo} {q1 : Dt.Sp} {s2 : Int} {t2 : ByteArray} {g2 : Bool} {a2 : Option Addr} {b2 c2 : Nat} {m2 : Dt.Mo} {q2 : Dt.Sp} (h0 : 24 ≤ p1) (h1 : p1 ≤ 31) (l1 : Dt.MoL m1) (l2 : Dt.MoL m2) (w : World) : Calls Tryz.prog 28 #[vlV p1 t1 g1 (.slice a1 b1 c1) s1 m1 q1, vlV p1 t2 g2 (.slice a2 b2 c2) s2 m2 q2] w fun e w' => e = .returned (.int .i64 (Dt.cmpM m1 m2)) ∧ Below w.heap.size w w' := by
  have HC : Hid _ := fun W => Dt.cmp_r m1 m2 W l1 l2
  clear l1 l2
  rcases (by omega : p1 = 24 ∨ p1 = 25 ∨ p1 = 26 ∨ p1 = 27 ∨ p1 = 28 ∨ p1 = 29 ∨ p1 = 30 ∨ p1 = 31) with rfl | rfl | rfl | rfl | rfl | rfl | rfl | rfl
  · clear h0 h1
    have hb0 : Below w.heap.size w ((w.alloc (.cells #[.int .i64 24, .string t1, .bool g1, .slice a1 b1 c1, .int .i64 s1, .int .i64 m1.k, .int .i64 m1.y, .int .i64 m1.m, .int .i64 m1.d, .int .i64 m1.s, .int .i64 m1.n, .bool m1.hz, .int .i64 m1.z, .int .i64 q1.o, .int .i64 q1.s, .int .i64 q1.n] 47)).alloc (.cells #[.int .i64 24, .string t2, .bool g2, .slice a2 b2 c2, .int .i64 s2, .int .i64 m2.k, .int .i64 m2.y, .int .i64 m2.m, .int .i64 m2.d, .int .i64 m2.s, .int .i64 m2.n, .bool m2.hz, .int .i64 m2.z, .int .i64 q2.o, .int .i64 q2.s, .int .i64 q2.n] 47)) := ((Below.refl _ _).alloc (Nat.le_refl _) _).alloc (Below.alloc (Below.refl w.heap.size w) (Nat.le_refl _) _).size _
    have HB : Hid _ := hb0
    clear hb0
    go_enter Tryz.func28, Tryz.ntmps28
    go_wp2_with (go_at_call 53; refine Calls.mono (HC.out _) ?_; rintro e w9 ⟨rfl, hb9⟩)
    go_ret
    exact ⟨rfl, HB.out.trans (hb9.mono HB.out.size)⟩
  · clear h0 h1
    have hb0 : Below w.heap.size w ((w.alloc (.cells #[.int .i64 25, .string t1, .bool g1, .slice a1 b1 c1, .int .i64 s1, .int .i64 m1.k, .int .i64 m1.y, .int .i64 m1.m, .int .i64 m1.d, .int .i64 m1.s, .int .i64 m1.n, .bool m1.hz, .int .i64 m1.z, .int .i64 q1.o, .int .i64 q1.s, .int .i64 q1.n] 47)).alloc (.cells #[.int .i64 25, .string t2, .bool g2, .slice a2 b2 c2, .int .i64 s2, .int .i64 m2.k, .int .i64 m2.y, .int .i64 m2.m, .int .i64 m2.d, .int .i64 m2.s, .int .i64 m2.n, .bool m2.hz, .int .i64 m2.z, .int .i64 q2.o, .int .i64 q2.s, .int .i64 q2.n] 47)) := ((Below.refl _ _).alloc (Nat.le_refl _) _).alloc (Below.alloc (Below.refl w.heap.size w) (Nat.le_refl _) _).size _
    have HB : Hid _ := hb0
    clear hb0
    go_enter Tryz.func28, Tryz.ntmps28
    go_wp2_with (go_at_call 53; refine Calls.mono (HC.out _) ?_; rintro e w9 ⟨rfl, hb9⟩)
    go_ret
    exact ⟨rfl, HB.out.trans (hb9.mono HB.out.size)⟩
  · clear h0 h1
    have hb0 : Below w.heap.size w ((w.alloc (.cells #[.int .i64 26, .string t1, .bool g1, .slice a1 b1 c1, .int .i64 s1, .int .i64 m1.k, .int .i64 m1.y, .int .i64 m1.m, .int .i64 m1.d, .int .i64 m1.s, .int .i64 m1.n, .bool m1.hz, .int .i64 m1.z, .int .i64 q1.o, .int .i64 q1.s, .int .i64 q1.n] 47)).alloc (.cells #[.int .i64 26, .string t2, .bool g2, .slice a2 b2 c2, .int .i64 s2, .int .i64 m2.k, .int .i64 m2.y, .int .i64 m2.m, .int .i64 m2.d, .int .i64 m2.s, .int .i64 m2.n, .bool m2.hz, .int .i64 m2.z, .int .i64 q2.o, .int .i64 q2.s, .int .i64 q2.n] 47)) := ((Below.refl _ _).alloc (Nat.le_refl _) _).alloc (Below.alloc (Below.refl w.heap.size w) (Nat.le_refl _) _).size _
    have HB : Hid _ := hb0
    clear hb0
    go_enter Tryz.func28, Tryz.ntmps28
    go_wp2_with (go_at_call 53; refine Calls.mono (HC.out _) ?_; rintro e w9 ⟨rfl, hb9⟩)
    go_ret
    exact ⟨rfl, HB.out.trans (hb9.mono HB.out.size)⟩
  · clear h0 h1
    have hb0 : Below w.heap.size w ((w.alloc (.cells #[.int .i64 27, .string t1, .bool g1, .slice a1 b1 c1, .int .i64 s1, .int .i64 m1.k, .int .i64 m1.y, .int .i64 m1.m, .int .i64 m1.d, .int .i64 m1.s, .int .i64 m1.n, .bool m1.hz, .int .i64 m1.z, .int .i64 q1.o, .int .i64 q1.s, .int .i64 q1.n] 47)).alloc (.cells #[.int .i64 27, .string t2, .bool g2, .slice a2 b2 c2, .int .i64 s2, .int .i64 m2.k, .int .i64 m2.y, .int .i64 m2.m, .int .i64 m2.d, .int .i64 m2.s, .int .i64 m2.n, .bool m2.hz, .int .i64 m2.z, .int .i64 q2.o, .int .i64 q2.s, .int .i64 q2.n] 47)) := ((Below.refl _ _).alloc (Nat.le_refl _) _).alloc (Below.alloc (Below.refl w.heap.size w) (Nat.le_refl _) _).size _
    have HB : Hid _ := hb0
    clear hb0
    go_enter Tryz.func28, Tryz.ntmps28
    go_wp2_with (go_at_call 53; refine Calls.mono (HC.out _) ?_; rintro e w9 ⟨rfl, hb9⟩)
    go_ret
    exact ⟨rfl, HB.out.trans (hb9.mono HB.out.size)⟩
  · clear h0 h1
    have hb0 : Below w.heap.size w ((w.alloc (.cells #[.int .i64 28, .string t1, .bool g1, .slice a1 b1 c1, .int .i64 s1, .int .i64 m1.k, .int .i64 m1.y, .int .i64 m1.m, .int .i64 m1.d, .int .i64 m1.s, .int .i64 m1.n, .bool m1.hz, .int .i64 m1.z, .int .i64 q1.o, .int .i64 q1.s, .int .i64 q1.n] 47)).alloc (.cells #[.int .i64 28, .string t2, .bool g2, .slice a2 b2 c2, .int .i64 s2, .int .i64 m2.k, .int .i64 m2.y, .int .i64 m2.m, .int .i64 m2.d, .int .i64 m2.s, .int .i64 m2.n, .bool m2.hz, .int .i64 m2.z, .int .i64 q2.o, .int .i64 q2.s, .int .i64 q2.n] 47)) := ((Below.refl _ _).alloc (Nat.le_refl _) _).alloc (Below.alloc (Below.refl w.heap.size w) (Nat.le_refl _) _).size _
    have HB : Hid _ := hb0
    clear hb0
    go_enter Tryz.func28, Tryz.ntmps28
    go_wp2_with (go_at_call 53; refine Calls.mono (HC.out _) ?_; rintro e w9 ⟨rfl, hb9⟩)
    go_ret
    exact ⟨rfl, HB.out.trans (hb9.mono HB.out.size)⟩
  · clear h0 h1
    have hb0 : Below w.heap.size w ((w.alloc (.cells #[.int .i64 29, .string t1, .bool g1, .slice a1 b1 c1, .int .i64 s1, .int .i64 m1.k, .int .i64 m1.y, .int .i64 m1.m, .int .i64 m1.d, .int .i64 m1.s, .int .i64 m1.n, .bool m1.hz, .int .i64 m1.z, .int .i64 q1.o, .int .i64 q1.s, .int .i64 q1.n] 47)).alloc (.cells #[.int .i64 29, .string t2, .bool g2, .slice a2 b2 c2, .int .i64 s2, .int .i64 m2.k, .int .i64 m2.y, .int .i64 m2.m, .int .i64 m2.d, .int .i64 m2.s, .int .i64 m2.n, .bool m2.hz, .int .i64 m2.z, .int .i64 q2.o, .int .i64 q2.s, .int .i64 q2.n] 47)) := ((Below.refl _ _).alloc (Nat.le_refl _) _).alloc (Below.alloc (Below.refl w.heap.size w) (Nat.le_refl _) _).size _
    have HB : Hid _ := hb0
    clear hb0
    go_enter Tryz.func28, Tryz.ntmps28
    go_wp2_with (go_at_call 53; refine Calls.mono (HC.out _) ?_; rintro e w9 ⟨rfl, hb9⟩)
    go_ret
    exact ⟨rfl, HB.out.trans (hb9.mono HB.out.size)⟩
  · clear h0 h1
    have hb0 : Below w.heap.size w ((w.alloc (.cells #[.int .i64 30, .string t1, .bool g1, .slice a1 b1 c1, .int .i64 s1, .int .i64 m1.k, .int .i64 m1.y, .int .i64 m1.m, .int .i64 m1.d, .int .i64 m1.s, .int .i64 m1.n, .bool m1.hz, .int .i64 m1.z, .int .i64 q1.o, .int .i64 q1.s, .int .i64 q1.n] 47)).alloc (.cells #[.int .i64 30, .string t2, .bool g2, .slice a2 b2 c2, .int .i64 s2, .int .i64 m2.k, .int .i64 m2.y, .int .i64 m2.m, .int .i64 m2.d, .int .i64 m2.s, .int .i64 m2.n, .bool m2.hz, .int .i64 m2.z, .int .i64 q2.o, .int .i64 q2.s, .int .i64 q2.n] 47)) := ((Below.refl _ _).alloc (Nat.le_refl _) _).alloc (Below.alloc (Below.refl w.heap.size w) (Nat.le_refl _) _).size _
    have HB : Hid _ := hb0
    clear hb0
    go_enter Tryz.func28, Tryz.ntmps28
    go_wp2_with (go_at_call 53; refine Calls.mono (HC.out _) ?_; rintro e w9 ⟨rfl, hb9⟩)
    go_ret
    exact ⟨rfl, HB.out.trans (hb9.mono HB.out.size)⟩
  · clear h0 h1
    have hb0 : Below w.heap.size w ((w.alloc (.cells #[.int .i64 31, .string t1, .bool g1, .slice a1 b1 c1, .int .i64 s1, .int .i64 m1.k, .int .i64 m1.y, .int .i64 m1.m, .int .i64 m1.d, .int .i64 m1.s, .int .i64 m1.n, .bool m1.hz, .int .i64 m1.z, .int .i64 q1.o, .int .i64 q1.s, .int .i64 q1.n] 47)).alloc (.cells #[.int .i64 31, .string t2, .bool g2, .slice a2 b2 c2, .int .i64 s2, .int .i64 m2.k, .int .i64 m2.y, .int .i64 m2.m, .int .i64 m2.d, .int .i64 m2.s, .int .i64 m2.n, .bool m2.hz, .int .i64 m2.z, .int .i64 q2.o, .int .i64 q2.s, .int .i64 q2.n] 47)) := ((Below.refl _ _).alloc (Nat.le_refl _) _).alloc (Below.alloc (Below.refl w.heap.size w) (Nat.le_refl _) _).size _
    have HB : Hid _ := hb0
    clear hb0
    go_enter Tryz.func28, Tryz.ntmps28
    go_wp2_with (go_at_call 53; refine Calls.mono (HC.out _) ?_; rintro e w9 ⟨rfl, hb9⟩)
    go_ret
    exact ⟨rfl, HB.out.trans (hb9.mono HB.out.size)⟩
theorem r_spn {s1 : Int} {t1 : ByteArray} {g1 : Bool} {a1 : Option Addr} {b1 c1 : Nat} {m1 : Dt.Mo} {q1 : Dt.Sp} {s2 : Int} {t2 : ByteArray} {g2 : Bool} {a2 : Option Addr} {b2 c2 : Nat} {m2 : Dt.Mo} {q2 : Dt.Sp} (l1 : Dt.SpT q1) (l2 : Dt.SpT q2) (w : World) : Calls Tryz.prog 28 #[vlV 32 t1 g1 (.slice a1 b1 c1) s1 m1 q1, vlV 32 t2 g2 (.slice a2 b2 c2) s2 m2 q2] w fun e w' => e = .returned (.int .i64 (Dt.cmpP q1 q2)) ∧ Below w.heap.size w w' := by
  have HC : Hid _ := fun W => Dt.cmpSpan_r q1 q2 W l1 l2
  clear l1 l2
  have hb0 : Below w.heap.size w ((w.alloc (.cells #[.int .i64 32, .string t1, .bool g1, .slice a1 b1 c1, .int .i64 s1, .int .i64 m1.k, .int .i64 m1.y, .int .i64 m1.m, .int .i64 m1.d, .int .i64 m1.s, .int .i64 m1.n, .bool m1.hz, .int .i64 m1.z, .int .i64 q1.o, .int .i64 q1.s, .int .i64 q1.n] 47)).alloc (.cells #[.int .i64 32, .string t2, .bool g2, .slice a2 b2 c2, .int .i64 s2, .int .i64 m2.k, .int .i64 m2.y, .int .i64 m2.m, .int .i64 m2.d, .int .i64 m2.s, .int .i64 m2.n, .bool m2.hz, .int .i64 m2.z, .int .i64 q2.o, .int .i64 q2.s, .int .i64 q2.n] 47)) := ((Below.refl _ _).alloc (Nat.le_refl _) _).alloc (Below.alloc (Below.refl w.heap.size w) (Nat.le_refl _) _).size _
  have HB : Hid _ := hb0
  clear hb0
  go_enter Tryz.func28, Tryz.ntmps28
  go_wp2_with (go_at_call 52; refine Calls.mono (HC.out _) ?_; rintro e w9 ⟨rfl, hb9⟩)
  go_ret
  exact ⟨rfl, HB.out.trans (hb9.mono HB.out.size)⟩
theorem r_any {w : World} {v1 v2 : Value} {d1 d2 : Kd} (h1 : VlA w v1 d1) (h2 : VlA w v2 d2) (o1 : KdOk d1) (o2 : KdOk d2) : Calls Tryz.prog 28 #[v1, v2] w fun e w' => e = .returned (.int .i64 (cmpD d1 d2)) ∧ Below w.heap.size w w' := by
  obtain ⟨a1, c1, rfl, b1⟩ := h1
  obtain ⟨a2, c2, rfl, b2⟩ := h2
  by_cases h : d1.pr = d2.pr
  · rcases same_c o1 o2 h with ⟨p, t, t', rfl, rfl⟩ | ⟨n, n', rfl, rfl⟩ | ⟨k, m, m', rfl, rfl⟩ | ⟨q, q', rfl, rfl⟩
    · have o1' : p = 1 ∨ p = 9 := o1
      have e : cmpD (.txt p t) (.txt p t') = if (t.toList == t'.toList) = true then 0 else 2 := by simp [cmpD]
      rw [e]
      cases hq : t.toList == t'.toList with
      | true =>
        rw [if_pos rfl]
        rcases o1' with rfl | rfl
        · exact r_t1y hq w
        · exact r_t9y hq w
      | false =>
        rw [if_neg (by simp)]
        rcases o1' with rfl | rfl
        · exact r_t1n hq w
        · exact r_t9n hq w
    · exact r_num w ⟨b1, o1.1, o1.2⟩ ⟨b2, o2.1, o2.2⟩
    · have e : cmpD (.mom k m) (.mom k m') = Dt.cmpM m m' := by simp [cmpD]
      rw [e]
      exact r_mom o1.1 o1.2.1 o1.2.2 o2.2.2 w
    · exact r_spn o1 o2 w
  · rw [cmp_pr o1 o2 h]
    exact r_ne h w
end Go.Proofs.YtgaegajcejpmdaaGreatDoor
namespace Go.Proofs.YtgaegajcejpmdaaGreatDoor
open Go.RowKit
set_option linter.unusedVariables false
set_option linter.unusedSimpArgs false

theorem parse_bad (k : Int) (s : ByteArray) (w : World) (hk : isK k = false) : Calls Tryz.prog 21 #[.int .i64 k, .string s] w fun e w' => e = .returned (.tuple #[vlV 0 ⟨#[]⟩ false (.slice none 0 0) 0 z0 sp0, .int .i64 1]) ∧ Below w.heap.size w w' := by
  have hbx := BX.new w 40 [.int .i64 0, .string ⟨#[]⟩, .bool false, .slice none 0 0, .int .i64 0, .int .i64 0, .int .i64 0, .int .i64 0, .int .i64 0, .int .i64 0, .int .i64 0, .bool false, .int .i64 0, .int .i64 0, .int .i64 0, .int .i64 0]
  have hA := nw_heap w (.cells #[.int .i64 0, .string ⟨#[]⟩, .bool false, .slice none 0 0, .int .i64 0, .int .i64 0, .int .i64 0, .int .i64 0, .int .i64 0, .int .i64 0, .int .i64 0, .bool false, .int .i64 0, .int .i64 0, .int .i64 0, .int .i64 0] 40)
  have HX : Hid _ := hbx
  clear hbx
  go_enter Tryz.func21, Tryz.ntmps21
  go_wp2_with (first | (go_at_call 33; refine (known_k _ _).mono ?_; rintro e w' ⟨rfl, hw1⟩; have hw2 := hw1.symm; clear hw1; subst hw2) | (refine wpList_store_row rfl 40 _ _ rfl w.heap.size _ rfl rfl 40 _ hA (by kernel_rfl) rfl (by simp [Value.oneCell']) ?_; rw [alloc_setRow]))
  exact bodyPost_ret (v := .tuple #[vlV 0 ⟨#[]⟩ false (.slice none 0 0) 0 z0 sp0, .int .i64 1]) (by refine (res2 (X := w.heap.size) Tryz.results21 ?_ HX.out.blk rfl).trans ?_ <;> rfl) rfl ⟨rfl, HX.out.bel⟩
theorem box_two (w : World) (x y : Obj) : ((w.alloc x).alloc y).heap[w.heap.size]? = some x ∧ ((w.alloc x).alloc y).heap[w.heap.size + 1]? = some y ∧ Below w.heap.size w ((w.alloc x).alloc y) := by
  have h1 := nw_heap w x
  have h2 := nw_heap (w.alloc x) y
  have hs : (w.alloc x).heap.size = w.heap.size + 1 := by simp
  have hb : Below (w.alloc x).heap.size (w.alloc x) ((w.alloc x).alloc y) := (Below.refl _ _).alloc (Nat.le_refl _) _
  have ha : Below w.heap.size w (w.alloc x) := (Below.refl _ _).alloc (Nat.le_refl _) _
  rw [hs] at h2
  exact ⟨(hb.block _ (by rw [hs]; omega)).trans h1, h2, ha.trans (hb.mono ha.size)⟩
set_option maxRecDepth 100000 in
set_option maxHeartbeats 1600000 in
theorem same_p {w : World} {v1 v2 : Value} {d1 d2 : Kd} (h1 : VlA w v1 d1) (h2 : VlA w v2 d2) (o1 : KdOk d1) (o2 : KdOk d2) : Calls Tryz.prog 26 #[v1, v2] w fun e w' => e = .returned (.bool (cmpD d1 d2 == 0)) ∧ Below w.heap.size w w' := by
  have hc := fun W (hW : Below w.heap.size w W) => p_any (h1.below hW) (h2.below hW) o1 o2
  obtain ⟨a1, c1, rfl, b1⟩ := h1
  obtain ⟨a2, c2, rfl, b2⟩ := h2
  generalize d1.pr = p1 at *
  generalize d1.tx = t1 at *
  generalize d1.nm.1 = g1 at *
  generalize d1.nm.2.1.length = b1x at *
  generalize ((d1.nm.2.2 : Nat) : Int) = s1 at *
  generalize d1.mo = m1 at *
  generalize d1.sp = q1 at *
  generalize d2.pr = p2 at *
  generalize d2.tx = t2 at *
  generalize d2.nm.1 = g2 at *
  generalize d2.nm.2.1.length = b2x at *
  generalize ((d2.nm.2.2 : Nat) : Int) = s2 at *
  generalize d2.mo = m2 at *
  generalize d2.sp = q2 at *
  generalize cmpD d1 d2 = x at *
  obtain ⟨hx, hy, hb⟩ := box_two w (.cells #[.int .i64 p1, .string t1, .bool g1, .slice a1 b1x c1, .int .i64 s1, .int .i64 m1.k, .int .i64 m1.y, .int .i64 m1.m, .int .i64 m1.d, .int .i64 m1.s, .int .i64 m1.n, .bool m1.hz, .int .i64 m1.z, .int .i64 q1.o, .int .i64 q1.s, .int .i64 q1.n] 40) (.cells #[.int .i64 p2, .string t2, .bool g2, .slice a2 b2x c2, .int .i64 s2, .int .i64 m2.k, .int .i64 m2.y, .int .i64 m2.m, .int .i64 m2.d, .int .i64 m2.s, .int .i64 m2.n, .bool m2.hz, .int .i64 m2.z, .int .i64 q2.o, .int .i64 q2.s, .int .i64 q2.n] 40)
  have HC : Hid _ := And.intro (hc _ hb) hb
  clear hc hb b1 b2 o1 o2
  go_enter Tryz.func26, Tryz.ntmps26
  go_wp2_with (first | (refine wpList_load_row rfl 40 _ rfl w.heap.size rfl 40 _ (0, 0) _ hx Tryz.underlying40 rfl (by kernel_rfl) ?_) | (refine wpList_load_row rfl 40 _ rfl (w.heap.size + 1) rfl 40 _ (0, 0) _ hy Tryz.underlying40 rfl (by kernel_rfl) ?_) | (go_at_call 27; refine Calls.mono HC.out.1 ?_; rintro e w9 ⟨rfl, hb9⟩))
  go_ret
  exact ⟨rfl, HC.out.2.trans (hb9.mono HC.out.2.size)⟩
theorem textT (p : Int) (h : p = 1 ∨ p = 9) (t : ByteArray) (g : Bool) (a : Option Addr) (b c : Nat) (s : Int) (m : Dt.Mo) (q : Dt.Sp) (w : World) : Calls Tryz.prog 24 #[vlV p t g (.slice a b c) s m q] w fun e w' => e = .returned (.string t) ∧ Below w.heap.size w w' := by
  have hb : Below w.heap.size w (w.alloc (.cells #[.int .i64 p, .string t, .bool g, .slice a b c, .int .i64 s, .int .i64 m.k, .int .i64 m.y, .int .i64 m.m, .int .i64 m.d, .int .i64 m.s, .int .i64 m.n, .bool m.hz, .int .i64 m.z, .int .i64 q.o, .int .i64 q.s, .int .i64 q.n] 40)) := (Below.refl _ _).alloc (Nat.le_refl _) _
  rcases h with rfl | rfl
  all_goals
    have HB : Hid _ := hb
    clear hb
    go_enter Tryz.func24, Tryz.ntmps24
    go_wp2_with fail
    go_ret
    exact ⟨rfl, HB.out⟩
/-- What a function leaves whose result is a value's box. -/
theorem res1 {W : World} {X : Nat} {cs : Array Value} {fn : Func} {p : Tmp} {tmps : Array Value} (hf : fn.results = #[.cell p 47]) (hp : tmps.getD p undef = .pointer (some ⟨X, 0, none⟩)) (h : W.heap[X]? = some (.cells cs 47 (0, 0))) (hs : cs.size = 16) :
    (results fn tmps).run Tryz.prog W = .ok (.agg cs) W := by
  have hl := run_loadVar_row (P := Tryz.prog) W X 47 47 cs (0, 0) _ h Tryz.underlying47 rfl (by rw [hs]; kernel_rfl)
  have hp' : tmps[p]?.getD undef = .pointer (some ⟨X, 0, none⟩) := by simpa using hp
  simp [results, hf, hp', asAddr, hl]
set_option maxRecDepth 100000 in
set_option maxHeartbeats 1600000 in
theorem of_l (p : Int) (t : ByteArray) (g : Bool) (a : Option Addr) (b c : Nat) (s : Int) (m : Dt.Mo) (q : Dt.Sp) (w : World) : Calls Tryz.prog 29 #[vlV p t g (.slice a b c) s m q] w fun e w' => e = .returned (vlV p t g (.slice a b c) s m q) ∧ Below w.heap.size w w' := by
  obtain ⟨hx, hy, hb⟩ := box_two w (.cells #[.int .i64 p, .string t, .bool g, .slice a b c, .int .i64 s, .int .i64 m.k, .int .i64 m.y, .int .i64 m.m, .int .i64 m.d, .int .i64 m.s, .int .i64 m.n, .bool m.hz, .int .i64 m.z, .int .i64 q.o, .int .i64 q.s, .int .i64 q.n] 40) (.cells #[.int .i64 0, .string ⟨#[]⟩, .bool false, .slice none 0 0, .int .i64 0, .int .i64 0, .int .i64 0, .int .i64 0, .int .i64 0, .int .i64 0, .int .i64 0, .bool false, .int .i64 0, .int .i64 0, .int .i64 0, .int .i64 0] 47)
  have hL0 := c16 hx
  obtain ⟨g0, g1, g2, g3, g4, g5, g6, g7, g8, g9, g10, g11, g12, g13, g14, g15⟩ := hL0
  have hb5 : Below w.heap.size w (((w.alloc (.cells #[.int .i64 p, .string t, .bool g, .slice a b c, .int .i64 s, .int .i64 m.k, .int .i64 m.y, .int .i64 m.m, .int .i64 m.d, .int .i64 m.s, .int .i64 m.n, .bool m.hz, .int .i64 m.z, .int .i64 q.o, .int .i64 q.s, .int .i64 q.n] 40)).alloc (.cells #[.int .i64 0, .string ⟨#[]⟩, .bool false, .slice none 0 0, .int .i64 0, .int .i64 0, .int .i64 0, .int .i64 0, .int .i64 0, .int .i64 0, .int .i64 0, .bool false, .int .i64 0, .int .i64 0, .int .i64 0, .int .i64 0] 47)).setRow (w.heap.size + 1) #[.int .i64 p, .string t, .bool g, .slice a b c, .int .i64 s, .int .i64 m.k, .int .i64 m.y, .int .i64 m.m, .int .i64 m.d, .int .i64 m.s, .int .i64 m.n, .bool m.hz, .int .i64 m.z, .int .i64 q.o, .int .i64 q.s, .int .i64 q.n]) := below_setRow hb (Nat.le_succ _) _
  have hf := setRow_heap _ (w.heap.size + 1) _ #[.int .i64 p, .string t, .bool g, .slice a b c, .int .i64 s, .int .i64 m.k, .int .i64 m.y, .int .i64 m.m, .int .i64 m.d, .int .i64 m.s, .int .i64 m.n, .bool m.hz, .int .i64 m.z, .int .i64 q.o, .int .i64 q.s, .int .i64 q.n] _ _ hy
  have HB : Hid _ := And.intro hb5 hf
  clear hb5 hf hx hb
  go_enter Tryz.func29, Tryz.ntmps29
  go_wp2_with (refine wpList_store_row rfl 47 _ _ rfl (w.heap.size + 1) _ rfl rfl 47 _ hy (by kernel_rfl) rfl (by simp [Value.oneCell']) ?_)
  exact bodyPost_ret (v := vlV p t g (.slice a b c) s m q) (by refine (res1 (X := w.heap.size + 1) Tryz.results29 ?_ HB.out.2 rfl).trans ?_ <;> rfl) rfl ⟨rfl, HB.out.1⟩
end Go.Proofs.YtgaegajcejpmdaaGreatDoor
namespace Go.Proofs.YtgaegajcejpmdaaGreatDoor
open Go.RowKit
set_option linter.unusedVariables false
set_option linter.unusedSimpArgs false

theorem cmpP_in (a b : Dt.Sp) : -1 ≤ Dt.cmpP a b ∧ Dt.cmpP a b ≤ 2 := by
  have := Dt.cmp4_in 1903 7 a b
  unfold Dt.cmpP
  dsimp only
  split <;> omega
theorem cmp_rev {a b : Kd} (ha : KdOk a) (hb : KdOk b) : (cmpD a b = 2 ∧ cmpD b a = 2) ∨ (cmpD a b ≠ 2 ∧ -1 ≤ cmpD a b ∧ cmpD a b ≤ 1 ∧ cmpD b a = -(cmpD a b)) := by
  by_cases h : a.pr = b.pr
  · rcases same_c ha hb h with ⟨p, t, t', rfl, rfl⟩ | ⟨n, n', rfl, rfl⟩ | ⟨k, m, m', rfl, rfl⟩ | ⟨q, q', rfl, rfl⟩
    · have e1 : cmpD (.txt p t) (.txt p t') = if (t.toList == t'.toList) = true then 0 else 2 := by simp [cmpD]
      have e2 : cmpD (.txt p t') (.txt p t) = if (t'.toList == t.toList) = true then 0 else 2 := by simp [cmpD]
      have e3 : (t'.toList == t.toList) = (t.toList == t'.toList) := by rw [Bool.eq_iff_iff]; simp only [beq_iff_eq]; exact ⟨Eq.symm, Eq.symm⟩
      rw [e1, e2, e3]
      split
      · right; omega
      · left; exact ⟨rfl, rfl⟩
    · have h1 := Dc.cmp_anti ha.1 hb.1
      have h2 := Dc.cmp_tri ha.1 hb.1
      right
      show Dc.cmpS n n' ≠ 2 ∧ -1 ≤ Dc.cmpS n n' ∧ Dc.cmpS n n' ≤ 1 ∧ Dc.cmpS n' n = -(Dc.cmpS n n')
      omega
    · have e1 : cmpD (.mom k m) (.mom k m') = Dt.cmpM m m' := by simp [cmpD]
      have e2 : cmpD (.mom k m') (.mom k m) = Dt.cmpM m' m := by simp [cmpD]
      have h1 := Dt.cmp_turn m m'
      have h2 := Dt.cmp_in m m'
      rw [e1, e2, h1]
      split <;> omega
    · have h1 := Dt.cmpP_turn q q'
      have h2 := cmpP_in q q'
      show (Dt.cmpP q q' = 2 ∧ Dt.cmpP q' q = 2) ∨ (Dt.cmpP q q' ≠ 2 ∧ -1 ≤ Dt.cmpP q q' ∧ Dt.cmpP q q' ≤ 1 ∧ Dt.cmpP q' q = -(Dt.cmpP q q'))
      rw [h1]
      split <;> omega
  · left
    exact ⟨cmp_pr ha hb h, cmp_pr hb ha (fun q => h q.symm)⟩
theorem tx_len {n : Dc.Nm} : (Dc.txS n).length ≤ n.2.1.length + 2 := by
  unfold Dc.txS
  cases n.1 <;> by_cases h : n.2.2 = 0 <;> simp [h] <;> omega
theorem num_txt {a b : Dc.Nm} (ha : Dc.CN a) (hb : Dc.CN b) (la : a.2.1.length ≤ 400) (lb : b.2.1.length ≤ 400) : (Dc.cmpS a b == 0) = ((Dc.sb (Dc.txS a)).toList == (Dc.sb (Dc.txS b)).toList) := by
  have hz := Dc.cmp_zero ha hb
  have l1 := tx_len (n := a)
  have l2 := tx_len (n := b)
  have p1 := Dc.par_tx ha (by omega)
  have p2 := Dc.par_tx hb (by omega)
  rw [Bool.eq_iff_iff]
  simp only [beq_iff_eq]
  rw [hz]
  constructor
  · rintro rfl; rfl
  · intro h
    have h1 : Dc.sb (Dc.txS a) = Dc.sb (Dc.txS b) := (Dc.tl_eq _ _).1 h
    have h2 : Dc.bl (Dc.sb (Dc.txS a)) = Dc.bl (Dc.sb (Dc.txS b)) := by rw [h1]
    rw [Dc.bl_sb (Dc.tx_byte ha.1.dg), Dc.bl_sb (Dc.tx_byte hb.1.dg)] at h2
    rw [h2, p2] at p1
    exact (Except.ok.inj p1).symm
/-- What is read, and its error, of any kind and text. -/
def oS (k : Int) (s : ByteArray) : Option Kd := if isK k = true then psS k s else none
def erS (k : Int) (s : ByteArray) : Int := if isK k = true then (if (psS k s).isSome = true then 0 else 2) else 1
theorem er_o (k : Int) (s : ByteArray) : (erS k s = 0 ∧ ∃ d, oS k s = some d ∧ isK k = true ∧ psS k s = some d) ∨ ((erS k s = 1 ∨ erS k s = 2) ∧ oS k s = none) := by
  unfold erS oS
  by_cases hk : isK k = true
  · rw [if_pos hk, if_pos hk]
    cases h : psS k s with
    | some d => left; exact ⟨by simp, d, rfl, hk, rfl⟩
    | none => right; exact ⟨.inr (by simp), rfl⟩
  · rw [if_neg hk, if_neg hk]
    right; exact ⟨.inl rfl, rfl⟩
/-- What Parse leaves, whatever came. -/
def PqP (k : Int) (s : ByteArray) (w : World) (e : Ending) (w' : World) : Prop :=
  Below w.heap.size w w' ∧ ∃ (p : Int) (tx : ByteArray) (ng : Bool) (a : Option Addr) (b c : Nat) (sc : Int) (m : Dt.Mo) (q : Dt.Sp), e = .returned (.tuple #[vlV p tx ng (.slice a b c) sc m q, .int .i64 (erS k s)]) ∧ ∀ d, oS k s = some d → VlA w' (vlV p tx ng (.slice a b c) sc m q) d
theorem parse_q (k : Int) (s : ByteArray) (w : World) (hs : s.size ≤ 100000) (hw : Lw w) : Calls Tryz.prog 21 #[.int .i64 k, .string s] w (PqP k s w) := by
  by_cases hk : isK k = true
  · refine (parse_a k s w hk hs hw).mono ?_
    rintro e w' ⟨hb, h⟩
    have e1 : oS k s = psS k s := by unfold oS; rw [if_pos hk]
    cases hp : psS k s with
    | some d =>
      rw [hp] at h
      obtain ⟨v, rfl, a, c, rfl, hbt⟩ := h
      have e2 : erS k s = 0 := by unfold erS; rw [if_pos hk, hp]; rfl
      refine ⟨hb, _, _, _, a, _, c, _, _, _, by rw [e2], fun d' hd => ?_⟩
      rw [e1, hp] at hd
      cases hd
      exact ⟨a, c, rfl, hbt⟩
    | none =>
      rw [hp] at h
      have e2 : erS k s = 2 := by unfold erS; rw [if_pos hk, hp]; rfl
      refine ⟨hb, 0, ⟨#[]⟩, false, none, 0, 0, 0, z0, sp0, by rw [e2]; exact h, fun d hd => ?_⟩
      rw [e1, hp] at hd
      cases hd
  · have hk' : isK k = false := by simpa using hk
    refine (parse_bad k s w hk').mono ?_
    rintro e w' ⟨rfl, hb⟩
    have e2 : erS k s = 1 := by unfold erS; rw [if_neg hk]
    refine ⟨hb, 0, ⟨#[]⟩, false, none, 0, 0, 0, z0, sp0, by rw [e2], fun d hd => ?_⟩
    unfold oS at hd
    rw [if_neg hk] at hd
    cases hd
theorem ps_len {k : Int} {s : ByteArray} {n : Dc.Nm} (h : psS k s = some (.num n)) : n.2.1.length ≤ s.size := by
  unfold psS rdS at h
  split at h
  · split at h <;> cases h
  · split at h
    · obtain ⟨t, _, q⟩ := Option.map_eq_some_iff.1 h
      cases q
    · split at h
      · cases hq : Dc.parS (Dc.bl (Ch.spc s (whS k))) with
        | error x => rw [hq] at h; cases h
        | ok n' =>
          rw [hq] at h
          dsimp only at h
          split at h
          · cases h
            have := (Dc.par_ok hq).2.1
            rw [Dc.bl_len] at this
            exact Nat.le_trans this (spc_size s _)
          · cases h
      · split at h
        · obtain ⟨t, _, q⟩ := Option.map_eq_some_iff.1 h
          cases q
        · obtain ⟨t, _, q⟩ := Option.map_eq_some_iff.1 h
          cases q
end Go.Proofs.YtgaegajcejpmdaaGreatDoor
namespace Go.Proofs.YtgaegajcejpmdaaGreatDoor.Ch
set_option linter.unusedVariables false

def step (st : List Int × Bool) (c : Int) : List Int × Bool :=
  if isWhite c = true then (st.1, true) else if st.2 = true ∧ 0 < st.1.length then (st.1 ++ [32, c], false) else (st.1 ++ [c], false)
theorem col_fold (l out : List Int) (g : Bool) : col l out g = (l.foldl step (out, g)).1 := by
  induction l generalizing out g with
  | nil => rfl
  | cons c l ih =>
    rw [List.foldl_cons]
    simp only [col, step]
    split
    · exact ih out true
    · split
      · exact ih _ false
      · exact ih _ false
def clean (out : List Int) : Prop := out.foldl step ([], false) = (out, false)
theorem clean_nil : clean [] := rfl
theorem clean_one {out : List Int} {c : Int} (h : clean out) (hc : isWhite c = false) : clean (out ++ [c]) := by
  unfold clean at *
  rw [List.foldl_append, h]
  simp [step, hc]
theorem clean_two {out : List Int} {c : Int} (h : clean out) (hc : isWhite c = false) (hl : 0 < out.length) : clean (out ++ [32, c]) := by
  unfold clean at *
  rw [List.foldl_append, h]
  have h32 : isWhite 32 = true := by decide
  simp [step, hc, h32, hl]
theorem clean_col (l out : List Int) (g : Bool) (h : clean out) : clean (col l out g) := by
  induction l generalizing out g with
  | nil => exact h
  | cons c l ih =>
    simp only [col]
    split
    · exact ih out true h
    · rename_i hw
      have hw' : isWhite c = false := by simpa using hw
      split
      · rename_i hg
        exact ih _ false (clean_two h hw' hg.2)
      · exact ih _ false (clean_one h hw')
theorem col_col (l : List Int) : col (col l [] false) [] false = col l [] false := by
  have := clean_col l [] false clean_nil
  unfold clean at this
  rw [col_fold (col l [] false) [] false, this]
theorem rp_white (c : Int) : isWhite (rp c) = isWhite c := by
  unfold rp
  split
  · rename_i h; rw [h]; decide
  · rfl
theorem col_rp (l out : List Int) (g : Bool) : col (l.map rp) out g = col l out g := by
  induction l generalizing out g with
  | nil => rfl
  | cons c l ih =>
    simp only [List.map_cons, col, rp_white]
    split
    · exact ih out true
    · rename_i hw
      have e : rp c = c := by unfold rp; rw [if_neg hw]
      rw [e]
      split
      · exact ih _ false
      · exact ih _ false
theorem wordsOf_col (l : List Int) : wordsOf (col l [] false) = wordsOf l := by
  unfold wordsOf
  rw [col_col]
theorem words_le (l : List Int) : (wordsOf l).length ≤ l.length + 1 := by
  unfold wordsOf
  split
  · simp
  · unfold words
    rw [List.length_map, spl_len]
    have := cs_le (col l [] false)
    have := col_len l [] false
    simp at this
    omega
end Go.Proofs.YtgaegajcejpmdaaGreatDoor.Ch
