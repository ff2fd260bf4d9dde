/- The order of two values: kind.Cmp. -/
import Derived.Test.YtgaegajcejpmdaaGreatDoorHJ35
import Derived.Test.YtgaegajcejpmdaaGreatDoorHJ27
import Derived.Test.YtgaegajcejpmdaaGreatDoorHJ14
namespace Go.Proofs.YtgaegajcejpmdaaGreatDoor
open Go.RowKit
set_option linter.unusedVariables false
set_option linter.unusedSimpArgs false

theorem p_ne {p1 s1 : Int} {t1 : ByteArray} {g1 : Bool} {a1 : Option Addr} {b1 c1 : Nat} {m1 : Dt.Mo} {q1 : Dt.Sp} {p2 s2 : Int} {t2 : ByteArray} {g2 : Bool} {a2 : Option Addr} {b2 c2 : Nat} {m2 : Dt.Mo} {q2 : Dt.Sp} (h : p1 ≠ p2) (w : World) : Calls Tryz.prog 27 #[vlV p1 t1 g1 (.slice a1 b1 c1) s1 m1 q1, vlV p2 t2 g2 (.slice a2 b2 c2) s2 m2 q2] w fun e w' => e = .returned (.int .i64 2) ∧ Below w.heap.size w w' := by
  have hb0 : Below w.heap.size w ((w.alloc (.cells #[.int .i64 p1, .string t1, .bool g1, .slice a1 b1 c1, .int .i64 s1, .int .i64 m1.k, .int .i64 m1.y, .int .i64 m1.m, .int .i64 m1.d, .int .i64 m1.s, .int .i64 m1.n, .bool m1.hz, .int .i64 m1.z, .int .i64 q1.o, .int .i64 q1.s, .int .i64 q1.n] 40)).alloc (.cells #[.int .i64 p2, .string t2, .bool g2, .slice a2 b2 c2, .int .i64 s2, .int .i64 m2.k, .int .i64 m2.y, .int .i64 m2.m, .int .i64 m2.d, .int .i64 m2.s, .int .i64 m2.n, .bool m2.hz, .int .i64 m2.z, .int .i64 q2.o, .int .i64 q2.s, .int .i64 q2.n] 40)) := ((Below.refl _ _).alloc (Nat.le_refl _) _).alloc (Below.alloc (Below.refl w.heap.size w) (Nat.le_refl _) _).size _
  have HB : Hid _ := hb0
  clear hb0
  have hne : (p1 != p2) = true := by simpa using h
  have hne2 : (p1 == p2) = false := by simpa using h
  clear h
  go_enter Tryz.func27, Tryz.ntmps27
  go_wp2_with fail
  go_ret
  exact ⟨rfl, HB.out⟩
theorem p_t1y {s1 : Int} {t1 : ByteArray} {g1 : Bool} {a1 : Option Addr} {b1 c1 : Nat} {m1 : Dt.Mo} {q1 : Dt.Sp} {s2 : Int} {t2 : ByteArray} {g2 : Bool} {a2 : Option Addr} {b2 c2 : Nat} {m2 : Dt.Mo} {q2 : Dt.Sp} (h : (t1.toList == t2.toList) = true) (w : World) : Calls Tryz.prog 27 #[vlV 1 t1 g1 (.slice a1 b1 c1) s1 m1 q1, vlV 1 t2 g2 (.slice a2 b2 c2) s2 m2 q2] w fun e w' => e = .returned (.int .i64 0) ∧ Below w.heap.size w w' := by
  have hb0 : Below w.heap.size w ((w.alloc (.cells #[.int .i64 1, .string t1, .bool g1, .slice a1 b1 c1, .int .i64 s1, .int .i64 m1.k, .int .i64 m1.y, .int .i64 m1.m, .int .i64 m1.d, .int .i64 m1.s, .int .i64 m1.n, .bool m1.hz, .int .i64 m1.z, .int .i64 q1.o, .int .i64 q1.s, .int .i64 q1.n] 40)).alloc (.cells #[.int .i64 1, .string t2, .bool g2, .slice a2 b2 c2, .int .i64 s2, .int .i64 m2.k, .int .i64 m2.y, .int .i64 m2.m, .int .i64 m2.d, .int .i64 m2.s, .int .i64 m2.n, .bool m2.hz, .int .i64 m2.z, .int .i64 q2.o, .int .i64 q2.s, .int .i64 q2.n] 40)) := ((Below.refl _ _).alloc (Nat.le_refl _) _).alloc (Below.alloc (Below.refl w.heap.size w) (Nat.le_refl _) _).size _
  have HB : Hid _ := hb0
  clear hb0
  go_enter Tryz.func27, Tryz.ntmps27
  go_wp2_with fail
  go_ret
  exact ⟨rfl, HB.out⟩
theorem p_t1n {s1 : Int} {t1 : ByteArray} {g1 : Bool} {a1 : Option Addr} {b1 c1 : Nat} {m1 : Dt.Mo} {q1 : Dt.Sp} {s2 : Int} {t2 : ByteArray} {g2 : Bool} {a2 : Option Addr} {b2 c2 : Nat} {m2 : Dt.Mo} {q2 : Dt.Sp} (h : (t1.toList == t2.toList) = false) (w : World) : Calls Tryz.prog 27 #[vlV 1 t1 g1 (.slice a1 b1 c1) s1 m1 q1, vlV 1 t2 g2 (.slice a2 b2 c2) s2 m2 q2] w fun e w' => e = .returned (.int .i64 2) ∧ Below w.heap.size w w' := by
  have hb0 : Below w.heap.size w ((w.alloc (.cells #[.int .i64 1, .string t1, .bool g1, .slice a1 b1 c1, .int .i64 s1, .int .i64 m1.k, .int .i64 m1.y, .int .i64 m1.m, .int .i64 m1.d, .int .i64 m1.s, .int .i64 m1.n, .bool m1.hz, .int .i64 m1.z, .int .i64 q1.o, .int .i64 q1.s, .int .i64 q1.n] 40)).alloc (.cells #[.int .i64 1, .string t2, .bool g2, .slice a2 b2 c2, .int .i64 s2, .int .i64 m2.k, .int .i64 m2.y, .int .i64 m2.m, .int .i64 m2.d, .int .i64 m2.s, .int .i64 m2.n, .bool m2.hz, .int .i64 m2.z, .int .i64 q2.o, .int .i64 q2.s, .int .i64 q2.n] 40)) := ((Below.refl _ _).alloc (Nat.le_refl _) _).alloc (Below.alloc (Below.refl w.heap.size w) (Nat.le_refl _) _).size _
  have HB : Hid _ := hb0
  clear hb0
  go_enter Tryz.func27, Tryz.ntmps27
  go_wp2_with fail
  go_ret
  exact ⟨rfl, HB.out⟩
theorem p_t9y {s1 : Int} {t1 : ByteArray} {g1 : Bool} {a1 : Option Addr} {b1 c1 : Nat} {m1 : Dt.Mo} {q1 : Dt.Sp} {s2 : Int} {t2 : ByteArray} {g2 : Bool} {a2 : Option Addr} {b2 c2 : Nat} {m2 : Dt.Mo} {q2 : Dt.Sp} (h : (t1.toList == t2.toList) = true) (w : World) : Calls Tryz.prog 27 #[vlV 9 t1 g1 (.slice a1 b1 c1) s1 m1 q1, vlV 9 t2 g2 (.slice a2 b2 c2) s2 m2 q2] w fun e w' => e = .returned (.int .i64 0) ∧ Below w.heap.size w w' := by
  have hb0 : Below w.heap.size w ((w.alloc (.cells #[.int .i64 9, .string t1, .bool g1, .slice a1 b1 c1, .int .i64 s1, .int .i64 m1.k, .int .i64 m1.y, .int .i64 m1.m, .int .i64 m1.d, .int .i64 m1.s, .int .i64 m1.n, .bool m1.hz, .int .i64 m1.z, .int .i64 q1.o, .int .i64 q1.s, .int .i64 q1.n] 40)).alloc (.cells #[.int .i64 9, .string t2, .bool g2, .slice a2 b2 c2, .int .i64 s2, .int .i64 m2.k, .int .i64 m2.y, .int .i64 m2.m, .int .i64 m2.d, .int .i64 m2.s, .int .i64 m2.n, .bool m2.hz, .int .i64 m2.z, .int .i64 q2.o, .int .i64 q2.s, .int .i64 q2.n] 40)) := ((Below.refl _ _).alloc (Nat.le_refl _) _).alloc (Below.alloc (Below.refl w.heap.size w) (Nat.le_refl _) _).size _
  have HB : Hid _ := hb0
  clear hb0
  go_enter Tryz.func27, Tryz.ntmps27
  go_wp2_with fail
  go_ret
  exact ⟨rfl, HB.out⟩
theorem p_t9n {s1 : Int} {t1 : ByteArray} {g1 : Bool} {a1 : Option Addr} {b1 c1 : Nat} {m1 : Dt.Mo} {q1 : Dt.Sp} {s2 : Int} {t2 : ByteArray} {g2 : Bool} {a2 : Option Addr} {b2 c2 : Nat} {m2 : Dt.Mo} {q2 : Dt.Sp} (h : (t1.toList == t2.toList) = false) (w : World) : Calls Tryz.prog 27 #[vlV 9 t1 g1 (.slice a1 b1 c1) s1 m1 q1, vlV 9 t2 g2 (.slice a2 b2 c2) s2 m2 q2] w fun e w' => e = .returned (.int .i64 2) ∧ Below w.heap.size w w' := by
  have hb0 : Below w.heap.size w ((w.alloc (.cells #[.int .i64 9, .string t1, .bool g1, .slice a1 b1 c1, .int .i64 s1, .int .i64 m1.k, .int .i64 m1.y, .int .i64 m1.m, .int .i64 m1.d, .int .i64 m1.s, .int .i64 m1.n, .bool m1.hz, .int .i64 m1.z, .int .i64 q1.o, .int .i64 q1.s, .int .i64 q1.n] 40)).alloc (.cells #[.int .i64 9, .string t2, .bool g2, .slice a2 b2 c2, .int .i64 s2, .int .i64 m2.k, .int .i64 m2.y, .int .i64 m2.m, .int .i64 m2.d, .int .i64 m2.s, .int .i64 m2.n, .bool m2.hz, .int .i64 m2.z, .int .i64 q2.o, .int .i64 q2.s, .int .i64 q2.n] 40)) := ((Below.refl _ _).alloc (Nat.le_refl _) _).alloc (Below.alloc (Below.refl w.heap.size w) (Nat.le_refl _) _).size _
  have HB : Hid _ := hb0
  clear hb0
  go_enter Tryz.func27, Tryz.ntmps27
  go_wp2_with fail
  go_ret
  exact ⟨rfl, HB.out⟩
theorem p_num {n1 n2 : Dc.Nm} {a1 a2 : Option Addr} {c1 c2 : Nat} {t1 t2 : ByteArray} {m1 m2 : Dt.Mo} {q1 q2 : Dt.Sp} (w : World) (h1 : Dc.NmR w (.slice a1 n1.2.1.length c1) n1) (h2 : Dc.NmR w (.slice a2 n2.2.1.length c2) n2) : Calls Tryz.prog 27 #[vlV 10 t1 n1.1 (.slice a1 n1.2.1.length c1) n1.2.2 m1 q1, vlV 10 t2 n2.1 (.slice a2 n2.2.1.length c2) n2.2.2 m2 q2] w fun e w' => e = .returned (.int .i64 (Dc.cmpS n1 n2)) ∧ Below w.heap.size w w' := by
  have hb0 : Below w.heap.size w ((w.alloc (.cells #[.int .i64 10, .string t1, .bool n1.1, .slice a1 n1.2.1.length c1, .int .i64 n1.2.2, .int .i64 m1.k, .int .i64 m1.y, .int .i64 m1.m, .int .i64 m1.d, .int .i64 m1.s, .int .i64 m1.n, .bool m1.hz, .int .i64 m1.z, .int .i64 q1.o, .int .i64 q1.s, .int .i64 q1.n] 40)).alloc (.cells #[.int .i64 10, .string t2, .bool n2.1, .slice a2 n2.2.1.length c2, .int .i64 n2.2.2, .int .i64 m2.k, .int .i64 m2.y, .int .i64 m2.m, .int .i64 m2.d, .int .i64 m2.s, .int .i64 m2.n, .bool m2.hz, .int .i64 m2.z, .int .i64 q2.o, .int .i64 q2.s, .int .i64 q2.n] 40)) := ((Below.refl _ _).alloc (Nat.le_refl _) _).alloc (Below.alloc (Below.refl w.heap.size w) (Nat.le_refl _) _).size _
  have HB : Hid _ := hb0
  clear hb0
  have HN : Hid _ := And.intro (h1.below HB.out) (h2.below HB.out)
  clear h1 h2
  go_enter Tryz.func27, Tryz.ntmps27
  go_wp2_with (go_at_call 30; refine Calls.mono (Dc.cmp_p HN.out.1 HN.out.2) ?_; rintro e w9 ⟨rfl, hb9⟩)
  go_ret
  exact ⟨rfl, HB.out.trans (hb9.mono HB.out.size)⟩
set_option maxRecDepth 100000 in
set_option maxHeartbeats 3200000 in
theorem p_mom {p1 s1 : Int} {t1 : ByteArray} {g1 : Bool} {a1 : Option Addr} {b1 c1 : Nat} {m1 : Dt.Mo} {q1 : Dt.Sp} {s2 : Int} {t2 : ByteArray} {g2 : Bool} {a2 : Option Addr} {b2 c2 : Nat} {m2 : Dt.Mo} {q2 : Dt.Sp} (h0 : 24 ≤ p1) (h1 : p1 ≤ 31) (l1 : Dt.MoL m1) (l2 : Dt.MoL m2) (w : World) : Calls Tryz.prog 27 #[vlV p1 t1 g1 (.slice a1 b1 c1) s1 m1 q1, vlV p1 t2 g2 (.slice a2 b2 c2) s2 m2 q2] w fun e w' => e = .returned (.int .i64 (Dt.cmpM m1 m2)) ∧ Below w.heap.size w w' := by
  have HC : Hid _ := fun W => Dt.cmp_p m1 m2 W l1 l2
  clear l1 l2
  rcases (by omega : p1 = 24 ∨ p1 = 25 ∨ p1 = 26 ∨ p1 = 27 ∨ p1 = 28 ∨ p1 = 29 ∨ p1 = 30 ∨ p1 = 31) with rfl | rfl | rfl | rfl | rfl | rfl | rfl | rfl
  · clear h0 h1
    have hb0 : Below w.heap.size w ((w.alloc (.cells #[.int .i64 24, .string t1, .bool g1, .slice a1 b1 c1, .int .i64 s1, .int .i64 m1.k, .int .i64 m1.y, .int .i64 m1.m, .int .i64 m1.d, .int .i64 m1.s, .int .i64 m1.n, .bool m1.hz, .int .i64 m1.z, .int .i64 q1.o, .int .i64 q1.s, .int .i64 q1.n] 40)).alloc (.cells #[.int .i64 24, .string t2, .bool g2, .slice a2 b2 c2, .int .i64 s2, .int .i64 m2.k, .int .i64 m2.y, .int .i64 m2.m, .int .i64 m2.d, .int .i64 m2.s, .int .i64 m2.n, .bool m2.hz, .int .i64 m2.z, .int .i64 q2.o, .int .i64 q2.s, .int .i64 q2.n] 40)) := ((Below.refl _ _).alloc (Nat.le_refl _) _).alloc (Below.alloc (Below.refl w.heap.size w) (Nat.le_refl _) _).size _
    have HB : Hid _ := hb0
    clear hb0
    go_enter Tryz.func27, Tryz.ntmps27
    go_wp2_with (go_at_call 49; refine Calls.mono (HC.out _) ?_; rintro e w9 ⟨rfl, hb9⟩)
    go_ret
    exact ⟨rfl, HB.out.trans (hb9.mono HB.out.size)⟩
  · clear h0 h1
    have hb0 : Below w.heap.size w ((w.alloc (.cells #[.int .i64 25, .string t1, .bool g1, .slice a1 b1 c1, .int .i64 s1, .int .i64 m1.k, .int .i64 m1.y, .int .i64 m1.m, .int .i64 m1.d, .int .i64 m1.s, .int .i64 m1.n, .bool m1.hz, .int .i64 m1.z, .int .i64 q1.o, .int .i64 q1.s, .int .i64 q1.n] 40)).alloc (.cells #[.int .i64 25, .string t2, .bool g2, .slice a2 b2 c2, .int .i64 s2, .int .i64 m2.k, .int .i64 m2.y, .int .i64 m2.m, .int .i64 m2.d, .int .i64 m2.s, .int .i64 m2.n, .bool m2.hz, .int .i64 m2.z, .int .i64 q2.o, .int .i64 q2.s, .int .i64 q2.n] 40)) := ((Below.refl _ _).alloc (Nat.le_refl _) _).alloc (Below.alloc (Below.refl w.heap.size w) (Nat.le_refl _) _).size _
    have HB : Hid _ := hb0
    clear hb0
    go_enter Tryz.func27, Tryz.ntmps27
    go_wp2_with (go_at_call 49; refine Calls.mono (HC.out _) ?_; rintro e w9 ⟨rfl, hb9⟩)
    go_ret
    exact ⟨rfl, HB.out.trans (hb9.mono HB.out.size)⟩
  · clear h0 h1
    have hb0 : Below w.heap.size w ((w.alloc (.cells #[.int .i64 26, .string t1, .bool g1, .slice a1 b1 c1, .int .i64 s1, .int .i64 m1.k, .int .i64 m1.y, .int .i64 m1.m, .int .i64 m1.d, .int .i64 m1.s, .int .i64 m1.n, .bool m1.hz, .int .i64 m1.z, .int .i64 q1.o, .int .i64 q1.s, .int .i64 q1.n] 40)).alloc (.cells #[.int .i64 26, .string t2, .bool g2, .slice a2 b2 c2, .int .i64 s2, .int .i64 m2.k, .int .i64 m2.y, .int .i64 m2.m, .int .i64 m2.d, .int .i64 m2.s, .int .i64 m2.n, .bool m2.hz, .int .i64 m2.z, .int .i64 q2.o, .int .i64 q2.s, .int .i64 q2.n] 40)) := ((Below.refl _ _).alloc (Nat.le_refl _) _).alloc (Below.alloc (Below.refl w.heap.size w) (Nat.le_refl _) _).size _
    have HB : Hid _ := hb0
    clear hb0
    go_enter Tryz.func27, Tryz.ntmps27
    go_wp2_with (go_at_call 49; refine Calls.mono (HC.out _) ?_; rintro e w9 ⟨rfl, hb9⟩)
    go_ret
    exact ⟨rfl, HB.out.trans (hb9.mono HB.out.size)⟩
  · clear h0 h1
    have hb0 : Below w.heap.size w ((w.alloc (.cells #[.int .i64 27, .string t1, .bool g1, .slice a1 b1 c1, .int .i64 s1, .int .i64 m1.k, .int .i64 m1.y, .int .i64 m1.m, .int .i64 m1.d, .int .i64 m1.s, .int .i64 m1.n, .bool m1.hz, .int .i64 m1.z, .int .i64 q1.o, .int .i64 q1.s, .int .i64 q1.n] 40)).alloc (.cells #[.int .i64 27, .string t2, .bool g2, .slice a2 b2 c2, .int .i64 s2, .int .i64 m2.k, .int .i64 m2.y, .int .i64 m2.m, .int .i64 m2.d, .int .i64 m2.s, .int .i64 m2.n, .bool m2.hz, .int .i64 m2.z, .int .i64 q2.o, .int .i64 q2.s, .int .i64 q2.n] 40)) := ((Below.refl _ _).alloc (Nat.le_refl _) _).alloc (Below.alloc (Below.refl w.heap.size w) (Nat.le_refl _) _).size _
    have HB : Hid _ := hb0
    clear hb0
    go_enter Tryz.func27, Tryz.ntmps27
    go_wp2_with (go_at_call 49; refine Calls.mono (HC.out _) ?_; rintro e w9 ⟨rfl, hb9⟩)
    go_ret
    exact ⟨rfl, HB.out.trans (hb9.mono HB.out.size)⟩
  · clear h0 h1
    have hb0 : Below w.heap.size w ((w.alloc (.cells #[.int .i64 28, .string t1, .bool g1, .slice a1 b1 c1, .int .i64 s1, .int .i64 m1.k, .int .i64 m1.y, .int .i64 m1.m, .int .i64 m1.d, .int .i64 m1.s, .int .i64 m1.n, .bool m1.hz, .int .i64 m1.z, .int .i64 q1.o, .int .i64 q1.s, .int .i64 q1.n] 40)).alloc (.cells #[.int .i64 28, .string t2, .bool g2, .slice a2 b2 c2, .int .i64 s2, .int .i64 m2.k, .int .i64 m2.y, .int .i64 m2.m, .int .i64 m2.d, .int .i64 m2.s, .int .i64 m2.n, .bool m2.hz, .int .i64 m2.z, .int .i64 q2.o, .int .i64 q2.s, .int .i64 q2.n] 40)) := ((Below.refl _ _).alloc (Nat.le_refl _) _).alloc (Below.alloc (Below.refl w.heap.size w) (Nat.le_refl _) _).size _
    have HB : Hid _ := hb0
    clear hb0
    go_enter Tryz.func27, Tryz.ntmps27
    go_wp2_with (go_at_call 49; refine Calls.mono (HC.out _) ?_; rintro e w9 ⟨rfl, hb9⟩)
    go_ret
    exact ⟨rfl, HB.out.trans (hb9.mono HB.out.size)⟩
  · clear h0 h1
    have hb0 : Below w.heap.size w ((w.alloc (.cells #[.int .i64 29, .string t1, .bool g1, .slice a1 b1 c1, .int .i64 s1, .int .i64 m1.k, .int .i64 m1.y, .int .i64 m1.m, .int .i64 m1.d, .int .i64 m1.s, .int .i64 m1.n, .bool m1.hz, .int .i64 m1.z, .int .i64 q1.o, .int .i64 q1.s, .int .i64 q1.n] 40)).alloc (.cells #[.int .i64 29, .string t2, .bool g2, .slice a2 b2 c2, .int .i64 s2, .int .i64 m2.k, .int .i64 m2.y, .int .i64 m2.m, .int .i64 m2.d, .int .i64 m2.s, .int .i64 m2.n, .bool m2.hz, .int .i64 m2.z, .int .i64 q2.o, .int .i64 q2.s, .int .i64 q2.n] 40)) := ((Below.refl _ _).alloc (Nat.le_refl _) _).alloc (Below.alloc (Below.refl w.heap.size w) (Nat.le_refl _) _).size _
    have HB : Hid _ := hb0
    clear hb0
    go_enter Tryz.func27, Tryz.ntmps27
    go_wp2_with (go_at_call 49; refine Calls.mono (HC.out _) ?_; rintro e w9 ⟨rfl, hb9⟩)
    go_ret
    exact ⟨rfl, HB.out.trans (hb9.mono HB.out.size)⟩
  · clear h0 h1
    have hb0 : Below w.heap.size w ((w.alloc (.cells #[.int .i64 30, .string t1, .bool g1, .slice a1 b1 c1, .int .i64 s1, .int .i64 m1.k, .int .i64 m1.y, .int .i64 m1.m, .int .i64 m1.d, .int .i64 m1.s, .int .i64 m1.n, .bool m1.hz, .int .i64 m1.z, .int .i64 q1.o, .int .i64 q1.s, .int .i64 q1.n] 40)).alloc (.cells #[.int .i64 30, .string t2, .bool g2, .slice a2 b2 c2, .int .i64 s2, .int .i64 m2.k, .int .i64 m2.y, .int .i64 m2.m, .int .i64 m2.d, .int .i64 m2.s, .int .i64 m2.n, .bool m2.hz, .int .i64 m2.z, .int .i64 q2.o, .int .i64 q2.s, .int .i64 q2.n] 40)) := ((Below.refl _ _).alloc (Nat.le_refl _) _).alloc (Below.alloc (Below.refl w.heap.size w) (Nat.le_refl _) _).size _
    have HB : Hid _ := hb0
    clear hb0
    go_enter Tryz.func27, Tryz.ntmps27
    go_wp2_with (go_at_call 49; refine Calls.mono (HC.out _) ?_; rintro e w9 ⟨rfl, hb9⟩)
    go_ret
    exact ⟨rfl, HB.out.trans (hb9.mono HB.out.size)⟩
  · clear h0 h1
    have hb0 : Below w.heap.size w ((w.alloc (.cells #[.int .i64 31, .string t1, .bool g1, .slice a1 b1 c1, .int .i64 s1, .int .i64 m1.k, .int .i64 m1.y, .int .i64 m1.m, .int .i64 m1.d, .int .i64 m1.s, .int .i64 m1.n, .bool m1.hz, .int .i64 m1.z, .int .i64 q1.o, .int .i64 q1.s, .int .i64 q1.n] 40)).alloc (.cells #[.int .i64 31, .string t2, .bool g2, .slice a2 b2 c2, .int .i64 s2, .int .i64 m2.k, .int .i64 m2.y, .int .i64 m2.m, .int .i64 m2.d, .int .i64 m2.s, .int .i64 m2.n, .bool m2.hz, .int .i64 m2.z, .int .i64 q2.o, .int .i64 q2.s, .int .i64 q2.n] 40)) := ((Below.refl _ _).alloc (Nat.le_refl _) _).alloc (Below.alloc (Below.refl w.heap.size w) (Nat.le_refl _) _).size _
    have HB : Hid _ := hb0
    clear hb0
    go_enter Tryz.func27, Tryz.ntmps27
    go_wp2_with (go_at_call 49; refine Calls.mono (HC.out _) ?_; rintro e w9 ⟨rfl, hb9⟩)
    go_ret
    exact ⟨rfl, HB.out.trans (hb9.mono HB.out.size)⟩
theorem p_spn {s1 : Int} {t1 : ByteArray} {g1 : Bool} {a1 : Option Addr} {b1 c1 : Nat} {m1 : Dt.Mo} {q1 : Dt.Sp} {s2 : Int} {t2 : ByteArray} {g2 : Bool} {a2 : Option Addr} {b2 c2 : Nat} {m2 : Dt.Mo} {q2 : Dt.Sp} (l1 : Dt.SpT q1) (l2 : Dt.SpT q2) (w : World) : Calls Tryz.prog 27 #[vlV 32 t1 g1 (.slice a1 b1 c1) s1 m1 q1, vlV 32 t2 g2 (.slice a2 b2 c2) s2 m2 q2] w fun e w' => e = .returned (.int .i64 (Dt.cmpP q1 q2)) ∧ Below w.heap.size w w' := by
  have HC : Hid _ := fun W => Dt.cmpSpan_p q1 q2 W l1 l2
  clear l1 l2
  have hb0 : Below w.heap.size w ((w.alloc (.cells #[.int .i64 32, .string t1, .bool g1, .slice a1 b1 c1, .int .i64 s1, .int .i64 m1.k, .int .i64 m1.y, .int .i64 m1.m, .int .i64 m1.d, .int .i64 m1.s, .int .i64 m1.n, .bool m1.hz, .int .i64 m1.z, .int .i64 q1.o, .int .i64 q1.s, .int .i64 q1.n] 40)).alloc (.cells #[.int .i64 32, .string t2, .bool g2, .slice a2 b2 c2, .int .i64 s2, .int .i64 m2.k, .int .i64 m2.y, .int .i64 m2.m, .int .i64 m2.d, .int .i64 m2.s, .int .i64 m2.n, .bool m2.hz, .int .i64 m2.z, .int .i64 q2.o, .int .i64 q2.s, .int .i64 q2.n] 40)) := ((Below.refl _ _).alloc (Nat.le_refl _) _).alloc (Below.alloc (Below.refl w.heap.size w) (Nat.le_refl _) _).size _
  have HB : Hid _ := hb0
  clear hb0
  go_enter Tryz.func27, Tryz.ntmps27
  go_wp2_with (go_at_call 50; refine Calls.mono (HC.out _) ?_; rintro e w9 ⟨rfl, hb9⟩)
  go_ret
  exact ⟨rfl, HB.out.trans (hb9.mono HB.out.size)⟩
theorem p_any {w : World} {v1 v2 : Value} {d1 d2 : Kd} (h1 : VlA w v1 d1) (h2 : VlA w v2 d2) (o1 : KdOk d1) (o2 : KdOk d2) : Calls Tryz.prog 27 #[v1, v2] w fun e w' => e = .returned (.int .i64 (cmpD d1 d2)) ∧ Below w.heap.size w w' := by
  obtain ⟨a1, c1, rfl, b1⟩ := h1
  obtain ⟨a2, c2, rfl, b2⟩ := h2
  by_cases h : d1.pr = d2.pr
  · rcases same_c o1 o2 h with ⟨p, t, t', rfl, rfl⟩ | ⟨n, n', rfl, rfl⟩ | ⟨k, m, m', rfl, rfl⟩ | ⟨q, q', rfl, rfl⟩
    · have o1' : p = 1 ∨ p = 9 := o1
      have e : cmpD (.txt p t) (.txt p t') = if (t.toList == t'.toList) = true then 0 else 2 := by simp [cmpD]
      rw [e]
      cases hq : t.toList == t'.toList with
      | true =>
        rw [if_pos rfl]
        rcases o1' with rfl | rfl
        · exact p_t1y hq w
        · exact p_t9y hq w
      | false =>
        rw [if_neg (by simp)]
        rcases o1' with rfl | rfl
        · exact p_t1n hq w
        · exact p_t9n hq w
    · exact p_num w ⟨b1, o1.1, o1.2⟩ ⟨b2, o2.1, o2.2⟩
    · have e : cmpD (.mom k m) (.mom k m') = Dt.cmpM m m' := by simp [cmpD]
      rw [e]
      exact p_mom o1.1 o1.2.1 o1.2.2 o2.2.2 w
    · exact p_spn o1 o2 w
  · rw [cmp_pr o1 o2 h]
    exact p_ne h w
end Go.Proofs.YtgaegajcejpmdaaGreatDoor
