/- DateParts: the walk. -/
import Derived.Test.YtijcbgjlofcdfabNb
import Derived.Deep.RegionHeld3
namespace Go.Proofs.Ytijcbgjlofcdfab
open Go.RowKit
set_option linter.unusedVariables false

theorem blk6 {U : World} {X : Nat} {a b c d e f : Value} {t : TypeId} (hx : U.heap[X]? = some (.cells #[a, b, c, d, e, f] t (0, 0))) : U.cell? ⟨X, 0, none⟩ = some a ∧ U.cell? ⟨X, 1, none⟩ = some b ∧ U.cell? ⟨X, 2, none⟩ = some c ∧ U.cell? ⟨X, 3, none⟩ = some d ∧ U.cell? ⟨X, 4, none⟩ = some e ∧ U.cell? ⟨X, 5, none⟩ = some f := by
  refine ⟨?_, ?_, ?_, ?_, ?_, ?_⟩ <;> simp [World.cell?, hx]
theorem sp_len {y m d h n s : Int} (y0 : 0 ≤ y) (y1 : y ≤ 999999999) (m0 : 0 ≤ m) (m1 : m ≤ 999999999) (d0 : 0 ≤ d) (d1 : d ≤ 999999999) (h0 : 0 ≤ h) (h1 : h ≤ 999999999) (n0 : 0 ≤ n) (n1 : n ≤ 999999999) (s0 : 0 ≤ s) (s1 : s ≤ 999999999) : (spB y m d h n s).length ≤ 100 := by
  have e : (10 : Int) ^ (8 + 1) = 1000000000 := by decide
  have a1 := (nb_val 8 y y0 (by rw [e]; omega)).2.2
  have a2 := (nb_val 8 m m0 (by rw [e]; omega)).2.2
  have a3 := (nb_val 8 d d0 (by rw [e]; omega)).2.2
  have a4 := (nb_val 8 h h0 (by rw [e]; omega)).2.2
  have a5 := (nb_val 8 n n0 (by rw [e]; omega)).2.2
  have a6 := (nb_val 8 s s0 (by rw [e]; omega)).2.2
  unfold spB
  simp only [List.length_cons, List.length_append, List.length_nil]
  omega
theorem span_sp (t : ByteArray) (w : World) {y m d h n s : Int} (y0 : 0 ≤ y) (y1 : y ≤ 999999999) (m0 : 0 ≤ m) (m1 : m ≤ 999999999) (d0 : 0 ≤ d) (d1 : d ≤ 999999999) (h0 : 0 ≤ h) (h1 : h ≤ 999999999) (n0 : 0 ≤ n) (n1 : n ≤ 999999999) (s0 : 0 ≤ s) (s1 : s ≤ 999999999) (ht : bl t = spB y m d h n s) : Calls Try.prog 6 #[.string t] w fun e w' => e = .returned (.tuple #[spV ⟨12 * y + m, 86400 * d + 3600 * h + 60 * n + s, 500000000⟩, .int .i64 0]) ∧ Below w.heap.size w w' := by
  have hl := sp_len y0 y1 m0 m1 d0 d1 h0 h1 n0 n1 s0 s1
  have hz : t.size ≤ maxLen := by rw [← bl_len, ht]; have : (100 : Nat) ≤ maxLen := by decide
                                  omega
  have q := span_k t w hz
  rw [ht, (sp_pr y0 y1 m0 m1 d0 d1 h0 h1 n0 n1 s0 s1).1] at q
  rw [show 86400 * d + (3600 * h + 60 * n + s) = 86400 * d + 3600 * h + 60 * n + s by omega] at q
  exact q
theorem span_sn (t : ByteArray) (w : World) {y m d h n s : Int} (y0 : 0 ≤ y) (y1 : y ≤ 999999999) (m0 : 0 ≤ m) (m1 : m ≤ 999999999) (d0 : 0 ≤ d) (d1 : d ≤ 999999999) (h0 : 0 ≤ h) (h1 : h ≤ 999999999) (n0 : 0 ≤ n) (n1 : n ≤ 999999999) (s0 : 0 ≤ s) (s1 : s ≤ 999999999) (ht : bl t = 45 :: spB y m d h n s) : Calls Try.prog 6 #[.string t] w fun e w' => e = .returned (.tuple #[spV ⟨-(12 * y + m), -(86400 * d + 3600 * h + 60 * n + s), -500000000⟩, .int .i64 0]) ∧ Below w.heap.size w w' := by
  have hl := sp_len y0 y1 m0 m1 d0 d1 h0 h1 n0 n1 s0 s1
  have hz : t.size ≤ maxLen := by rw [← bl_len, ht, List.length_cons]; have : (101 : Nat) ≤ maxLen := by decide
                                  omega
  have q := span_k t w hz
  rw [ht, (sp_pr y0 y1 m0 m1 d0 d1 h0 h1 n0 n1 s0 s1).2] at q
  rw [show 86400 * d + (3600 * h + 60 * n + s) = 86400 * d + 3600 * h + 60 * n + s by omega] at q
  exact q
set_option maxRecDepth 8000 in
set_option maxHeartbeats 4000000 in
theorem parts_s (y m d h n s : Int) (neg : Bool) (w : World) : Calls Try.prog 3 #[.int .i64 y, .int .i64 m, .int .i64 d, .int .i64 h, .int .i64 n, .int .i64 s, .bool neg] w fun e w' => e = .returned (.bool true) ∧ Below w.heap.size w w' := by
  have HK : Hid _ := And.intro (fun W : World => known_p W) trivial
  go_enter Try.func3, Try.ntmps3
  go_wp2_with fail
  refine Calls.mono (HK.out.1 _) ?_
  rintro e w1 ⟨rfl, hb1⟩
  have HB : Hid _ := hb1
  clear hb1
  go_upto_region 4 with fail
  obtain ⟨U, hU⟩ : ∃ V, w1.alloc (.cells #[.int .i64 y, .int .i64 m, .int .i64 d, .int .i64 h, .int .i64 n, .int .i64 s] 3) = V := ⟨_, rfl⟩
  rw [hU]
  have hx : U.heap[w1.heap.size]? = some (.cells #[.int .i64 y, .int .i64 m, .int .i64 d, .int .i64 h, .int .i64 n, .int .i64 s] 3 (0, 0)) := by rw [← hU]; exact nw_heap _ _
  have HB : Hid (Below w.heap.size w U) := by
    rw [← hU]; exact HB.out.alloc HB.out.size _
  clear hU
  obtain ⟨g0', g1', g2', g3', g4', g5'⟩ := blk6 hx
  clear hx
  go_wp2_with fail
  go_loopg [16] 6 (fun g v16 wr => ∃ i : Nat, i + g = 6 ∧ v16 = .int .i64 (i : Int) ∧ wr = U ∧ (0 < i → 0 ≤ y ∧ y ≤ 999999999) ∧ (1 < i → 0 ≤ m ∧ m ≤ 999999999) ∧ (2 < i → 0 ≤ d ∧ d ≤ 999999999) ∧ (3 < i → 0 ≤ h ∧ h ≤ 999999999) ∧ (4 < i → 0 ≤ n ∧ n ≤ 999999999) ∧ (5 < i → 0 ≤ s ∧ s ≤ 999999999))
  case atStart => exact ⟨0, rfl, rfl, rfl, fun h => absurd h (by omega), fun h => absurd h (by omega), fun h => absurd h (by omega), fun h => absurd h (by omega), fun h => absurd h (by omega), fun h => absurd h (by omega)⟩
  case round =>
    obtain ⟨i, hig, rfl, rfl, r0, r1, r2, r3, r4, r5⟩ := hrel
    obtain rfl | rfl | rfl | rfl | rfl | rfl | rfl : i = 0 ∨ i = 1 ∨ i = 2 ∨ i = 3 ∨ i = 4 ∨ i = 5 ∨ i = 6 := by omega
    · obtain rfl : gk = 6 := by omega
      have HR : Hid _ := And.intro r0 (And.intro r1 (And.intro r2 (And.intro r3 (And.intro r4 r5))))
      clear r0 r1 r2 r3 r4 r5
      by_cases c1 : y < 0
      · have k1 : decide (y < 0) = true := by simpa using c1
        go_wp2_with fail
        go_ret
        exact ⟨rfl, HB.out⟩
      · have k1 : decide (y < 0) = false := by simpa using c1
        by_cases c2 : 999999999 < y
        · have k2 : decide (999999999 < y) = true := by simpa using c2
          go_wp2_with fail
          go_ret
          exact ⟨rfl, HB.out⟩
        · have k2 : decide (999999999 < y) = false := by simpa using c2
          go_wp2_with fail
          go_roundg 5
          case measure => omega
          case rel => exact ⟨1, rfl, rfl, rfl, fun _ => ⟨by omega, by omega⟩, fun hh => absurd hh (by omega), fun hh => absurd hh (by omega), fun hh => absurd hh (by omega), fun hh => absurd hh (by omega), fun hh => absurd hh (by omega)⟩
    · obtain rfl : gk = 5 := by omega
      have HR : Hid _ := And.intro r0 (And.intro r1 (And.intro r2 (And.intro r3 (And.intro r4 r5))))
      clear r0 r1 r2 r3 r4 r5
      by_cases c1 : m < 0
      · have k1 : decide (m < 0) = true := by simpa using c1
        go_wp2_with fail
        go_ret
        exact ⟨rfl, HB.out⟩
      · have k1 : decide (m < 0) = false := by simpa using c1
        by_cases c2 : 999999999 < m
        · have k2 : decide (999999999 < m) = true := by simpa using c2
          go_wp2_with fail
          go_ret
          exact ⟨rfl, HB.out⟩
        · have k2 : decide (999999999 < m) = false := by simpa using c2
          go_wp2_with fail
          go_roundg 4
          case measure => omega
          case rel => exact ⟨2, rfl, rfl, rfl, fun _ => HR.out.1 (by omega), fun _ => ⟨by omega, by omega⟩, fun hh => absurd hh (by omega), fun hh => absurd hh (by omega), fun hh => absurd hh (by omega), fun hh => absurd hh (by omega)⟩
    · obtain rfl : gk = 4 := by omega
      have HR : Hid _ := And.intro r0 (And.intro r1 (And.intro r2 (And.intro r3 (And.intro r4 r5))))
      clear r0 r1 r2 r3 r4 r5
      by_cases c1 : d < 0
      · have k1 : decide (d < 0) = true := by simpa using c1
        go_wp2_with fail
        go_ret
        exact ⟨rfl, HB.out⟩
      · have k1 : decide (d < 0) = false := by simpa using c1
        by_cases c2 : 999999999 < d
        · have k2 : decide (999999999 < d) = true := by simpa using c2
          go_wp2_with fail
          go_ret
          exact ⟨rfl, HB.out⟩
        · have k2 : decide (999999999 < d) = false := by simpa using c2
          go_wp2_with fail
          go_roundg 3
          case measure => omega
          case rel => exact ⟨3, rfl, rfl, rfl, fun _ => HR.out.1 (by omega), fun _ => HR.out.2.1 (by omega), fun _ => ⟨by omega, by omega⟩, fun hh => absurd hh (by omega), fun hh => absurd hh (by omega), fun hh => absurd hh (by omega)⟩
    · obtain rfl : gk = 3 := by omega
      have HR : Hid _ := And.intro r0 (And.intro r1 (And.intro r2 (And.intro r3 (And.intro r4 r5))))
      clear r0 r1 r2 r3 r4 r5
      by_cases c1 : h < 0
      · have k1 : decide (h < 0) = true := by simpa using c1
        go_wp2_with fail
        go_ret
        exact ⟨rfl, HB.out⟩
      · have k1 : decide (h < 0) = false := by simpa using c1
        by_cases c2 : 999999999 < h
        · have k2 : decide (999999999 < h) = true := by simpa using c2
          go_wp2_with fail
          go_ret
          exact ⟨rfl, HB.out⟩
        · have k2 : decide (999999999 < h) = false := by simpa using c2
          go_wp2_with fail
          go_roundg 2
          case measure => omega
          case rel => exact ⟨4, rfl, rfl, rfl, fun _ => HR.out.1 (by omega), fun _ => HR.out.2.1 (by omega), fun _ => HR.out.2.2.1 (by omega), fun _ => ⟨by omega, by omega⟩, fun hh => absurd hh (by omega), fun hh => absurd hh (by omega)⟩
    · obtain rfl : gk = 2 := by omega
      have HR : Hid _ := And.intro r0 (And.intro r1 (And.intro r2 (And.intro r3 (And.intro r4 r5))))
      clear r0 r1 r2 r3 r4 r5
      by_cases c1 : n < 0
      · have k1 : decide (n < 0) = true := by simpa using c1
        go_wp2_with fail
        go_ret
        exact ⟨rfl, HB.out⟩
      · have k1 : decide (n < 0) = false := by simpa using c1
        by_cases c2 : 999999999 < n
        · have k2 : decide (999999999 < n) = true := by simpa using c2
          go_wp2_with fail
          go_ret
          exact ⟨rfl, HB.out⟩
        · have k2 : decide (999999999 < n) = false := by simpa using c2
          go_wp2_with fail
          go_roundg 1
          case measure => omega
          case rel => exact ⟨5, rfl, rfl, rfl, fun _ => HR.out.1 (by omega), fun _ => HR.out.2.1 (by omega), fun _ => HR.out.2.2.1 (by omega), fun _ => HR.out.2.2.2.1 (by omega), fun _ => ⟨by omega, by omega⟩, fun hh => absurd hh (by omega)⟩
    · obtain rfl : gk = 1 := by omega
      have HR : Hid _ := And.intro r0 (And.intro r1 (And.intro r2 (And.intro r3 (And.intro r4 r5))))
      clear r0 r1 r2 r3 r4 r5
      by_cases c1 : s < 0
      · have k1 : decide (s < 0) = true := by simpa using c1
        go_wp2_with fail
        go_ret
        exact ⟨rfl, HB.out⟩
      · have k1 : decide (s < 0) = false := by simpa using c1
        by_cases c2 : 999999999 < s
        · have k2 : decide (999999999 < s) = true := by simpa using c2
          go_wp2_with fail
          go_ret
          exact ⟨rfl, HB.out⟩
        · have k2 : decide (999999999 < s) = false := by simpa using c2
          go_wp2_with fail
          go_roundg 0
          case measure => omega
          case rel => exact ⟨6, rfl, rfl, rfl, fun _ => HR.out.1 (by omega), fun _ => HR.out.2.1 (by omega), fun _ => HR.out.2.2.1 (by omega), fun _ => HR.out.2.2.2.1 (by omega), fun _ => HR.out.2.2.2.2.1 (by omega), fun _ => ⟨by omega, by omega⟩⟩
    · obtain rfl : gk = 0 := by omega
      obtain ⟨y0, y1⟩ := r0 (by omega)
      obtain ⟨m0, m1⟩ := r1 (by omega)
      obtain ⟨d0, d1⟩ := r2 (by omega)
      obtain ⟨h0, h1⟩ := r3 (by omega)
      obtain ⟨n0, n1⟩ := r4 (by omega)
      obtain ⟨s0, s1⟩ := r5 (by omega)
      clear r0 r1 r2 r3 r4 r5 g0' g1' g2' g3' g4' g5'
      have q1 := fun W : World => number_l y W y0 y1
      have q2 := fun W : World => number_l m W m0 m1
      have q3 := fun W : World => number_l d W d0 d1
      have q4 := fun W : World => number_l h W h0 h1
      have q5 := fun W : World => number_l n W n0 n1
      have q6 := fun W : World => number_l s W s0 s1
      have q7 := fun (t : ByteArray) (W : World) (ht : bl t = spB y m d h n s) => span_sp t W y0 y1 m0 m1 d0 d1 h0 h1 n0 n1 s0 s1 ht
      have q8 := fun (t : ByteArray) (W : World) (ht : bl t = 45 :: spB y m d h n s) => span_sn t W y0 y1 m0 m1 d0 d1 h0 h1 n0 n1 s0 s1 ht
      have HC : Hid _ := And.intro q1 (And.intro q2 (And.intro q3 (And.intro q4 (And.intro q5 (And.intro q6 (And.intro q7 q8))))))
      clear q1 q2 q3 q4 q5 q6 q7 q8
      have HW : Hid (Below wr.heap.size wr wr) := Below.refl _ _
      go_wp2_with fail
      refine Calls.mono (HC.out.1 _) ?_
      rintro e w2 ⟨a1, rfl, ha, hz1, hb2⟩
      have HA1 : Hid _ := ha
      have HW : Hid _ := HW.out.trans (hb2.mono HW.out.size)
      clear ha hb2
      go_wp2_with fail
      refine Calls.mono (HC.out.2.1 _) ?_
      rintro e w3 ⟨a2, rfl, ha, hz2, hb3⟩
      have HA2 : Hid _ := ha
      have HW : Hid _ := HW.out.trans (hb3.mono HW.out.size)
      clear ha hb3
      go_wp2_with fail
      refine Calls.mono (HC.out.2.2.1 _) ?_
      rintro e w4 ⟨a3, rfl, ha, hz3, hb4⟩
      have HA3 : Hid _ := ha
      have HW : Hid _ := HW.out.trans (hb4.mono HW.out.size)
      clear ha hb4
      go_wp2_with fail
      refine Calls.mono (HC.out.2.2.2.1 _) ?_
      rintro e w5 ⟨a4, rfl, ha, hz4, hb5⟩
      have HA4 : Hid _ := ha
      have HW : Hid _ := HW.out.trans (hb5.mono HW.out.size)
      clear ha hb5
      go_wp2_with fail
      refine Calls.mono (HC.out.2.2.2.2.1 _) ?_
      rintro e w6 ⟨a5, rfl, ha, hz5, hb6⟩
      have HA5 : Hid _ := ha
      have HW : Hid _ := HW.out.trans (hb6.mono HW.out.size)
      clear ha hb6
      go_wp2_with fail
      refine Calls.mono (HC.out.2.2.2.2.2.1 _) ?_
      rintro e w7 ⟨a6, rfl, ha, hz6, hb7⟩
      have HA6 : Hid _ := ha
      have HW : Hid _ := HW.out.trans (hb7.mono HW.out.size)
      clear ha hb7
      go_upto_region 10 with fail
      have c1 : bl ⟨#[80]⟩ = [80] := by decide +kernel
      have c2 : bl ⟨#[89]⟩ = [89] := by decide +kernel
      have c3 : bl ⟨#[77]⟩ = [77] := by decide +kernel
      have c4 : bl ⟨#[68, 84]⟩ = [68, 84] := by decide +kernel
      have c5 : bl ⟨#[72]⟩ = [72] := by decide +kernel
      have c6 : bl ⟨#[46, 53, 83]⟩ = [46, 53, 83] := by decide +kernel
      have c7 : bl ⟨#[45]⟩ = [45] := by decide +kernel
      have hT : bl (⟨#[80]⟩ ++ a1 ++ ⟨#[89]⟩ ++ a2 ++ ⟨#[77]⟩ ++ a3 ++ ⟨#[68, 84]⟩ ++ a4 ++ ⟨#[72]⟩ ++ a5 ++ ⟨#[77]⟩ ++ a6 ++ ⟨#[46, 53, 83]⟩) = spB y m d h n s := by
        simp only [bl_app, HA1.out, HA2.out, HA3.out, HA4.out, HA5.out, HA6.out, c1, c2, c3, c4, c5, c6, spB, List.append_assoc, List.cons_append, List.nil_append]
      clear c1 c2 c3 c4 c5 c6
      have HBB : Hid (Below w.heap.size w w7) := HB.out.trans (HW.out.mono HB.out.size)
      clear HW HB HA1 HA2 HA3 HA4 HA5 HA6 hz1 hz2 hz3 hz4 hz5 hz6
      have HB : Hid _ := HBB.out
      clear HBB
      generalize (⟨#[80]⟩ ++ a1 ++ ⟨#[89]⟩ ++ a2 ++ ⟨#[77]⟩ ++ a3 ++ ⟨#[68, 84]⟩ ++ a4 ++ ⟨#[72]⟩ ++ a5 ++ ⟨#[77]⟩ ++ a6 ++ ⟨#[46, 53, 83]⟩ : ByteArray) = T at *
      have hTs : T.size ≤ 100 := by rw [← bl_len, hT]; exact sp_len y0 y1 m0 m1 d0 d1 h0 h1 n0 n1 s0 s1
      have hTn : bl (⟨#[45]⟩ ++ T) = 45 :: spB y m d h n s := by rw [bl_app, c7, hT]; rfl
      have HT : Hid _ := And.intro hT hTn
      clear hT hTn c7
      cases neg
      · go_wp2_with fail
        refine Calls.mono (HC.out.2.2.2.2.2.2.1 _ _ HT.out.1) ?_
        rintro e w8 ⟨rfl, hb8⟩
        have HB : Hid (Below w.heap.size w w8) := HB.out.trans (hb8.mono HB.out.size)
        clear hb8
        go_upto_region 13 with fail
        obtain ⟨V8, hV8⟩ : ∃ V, w8.alloc (.cells (spC ⟨12 * y + m, 86400 * d + 3600 * h + 60 * n + s, 500000000⟩) 26) = V := ⟨_, rfl⟩
        rw [hV8]
        have x8 : V8.heap[w8.heap.size]? = some (.cells (spC ⟨12 * y + m, 86400 * d + 3600 * h + 60 * n + s, 500000000⟩) 26 (0, 0)) := by rw [← hV8]; exact nw_heap _ _
        have HB : Hid (Below w.heap.size w V8) := by rw [← hV8]; exact HB.out.alloc HB.out.size _
        clear hV8
        go_upto_region 14 with fail
        obtain ⟨V9, hV9⟩ : ∃ V, V8.alloc (.cells (spC ⟨12 * y + m, 86400 * d + 3600 * h + 60 * n + s, 500000000⟩) 26) = V := ⟨_, rfl⟩
        rw [hV9]
        have x9 : V9.heap[V8.heap.size]? = some (.cells (spC ⟨12 * y + m, 86400 * d + 3600 * h + 60 * n + s, 500000000⟩) 26 (0, 0)) := by rw [← hV9]; exact nw_heap _ _
        replace x8 : V9.heap[w8.heap.size]? = some (.cells (spC ⟨12 * y + m, 86400 * d + 3600 * h + 60 * n + s, 500000000⟩) 26 (0, 0)) := by rw [← hV9]; exact (((Below.refl V8.heap.size V8).alloc (Nat.le_refl _) _).block _ (lt_of x8)).trans x8
        have HB : Hid (Below w.heap.size w V9) := by rw [← hV9]; exact HB.out.alloc HB.out.size _
        clear hV9
        obtain ⟨a0', a1', a2'⟩ := blk3 x8
        obtain ⟨b0', b1', b2'⟩ := blk3 x9
        clear x8 x9
        go_wp2_with fail
        go_ret
        exact ⟨rfl, HB.out⟩
      · go_wp2_with fail
        refine Calls.mono (HC.out.2.2.2.2.2.2.2 _ _ HT.out.2) ?_
        rintro e w8 ⟨rfl, hb8⟩
        have HB : Hid (Below w.heap.size w w8) := HB.out.trans (hb8.mono HB.out.size)
        have HB8 : Hid (w.heap.size ≤ w8.heap.size) := HB.out.size
        clear hb8
        go_upto_region 13 with fail
        obtain ⟨V8, hV8⟩ : ∃ V, w8.alloc (.cells (spC ⟨-(12 * y + m), -(86400 * d + 3600 * h + 60 * n + s), -500000000⟩) 26) = V := ⟨_, rfl⟩
        rw [hV8]
        have x8 : V8.heap[w8.heap.size]? = some (.cells (spC ⟨-(12 * y + m), -(86400 * d + 3600 * h + 60 * n + s), -500000000⟩) 26 (0, 0)) := by rw [← hV8]; exact nw_heap _ _
        have HB : Hid (Below w.heap.size w V8) := by rw [← hV8]; exact HB.out.alloc HB.out.size _
        clear hV8
        go_upto_region 14 with fail
        obtain ⟨V9, hV9⟩ : ∃ V, V8.alloc (.cells (spC ⟨12 * y + m, 86400 * d + 3600 * h + 60 * n + s, 500000000⟩) 26) = V := ⟨_, rfl⟩
        rw [hV9]
        have x9 : V9.heap[V8.heap.size]? = some (.cells (spC ⟨12 * y + m, 86400 * d + 3600 * h + 60 * n + s, 500000000⟩) 26 (0, 0)) := by rw [← hV9]; exact nw_heap _ _
        have hlt := lt_of x8
        replace x8 : V9.heap[w8.heap.size]? = some (.cells (spC ⟨-(12 * y + m), -(86400 * d + 3600 * h + 60 * n + s), -500000000⟩) 26 (0, 0)) := by rw [← hV9]; exact (((Below.refl V8.heap.size V8).alloc (Nat.le_refl _) _).block _ (lt_of x8)).trans x8
        have HB : Hid (Below w.heap.size w V9) := by rw [← hV9]; exact HB.out.alloc HB.out.size _
        clear hV9
        obtain ⟨b0', b1', b2'⟩ := blk3 x9
        have f0' : V9.frozen? ⟨V8.heap.size, 0, none⟩ = false := by simp [World.frozen?, x9]
        have f1' : V9.frozen? ⟨V8.heap.size, 1, none⟩ = false := by simp [World.frozen?, x9]
        have f2' : V9.frozen? ⟨V8.heap.size, 2, none⟩ = false := by simp [World.frozen?, x9]
        have hw8 : w.heap.size ≤ w8.heap.size := HB8.out
        go_upto_region 16 with fail
        obtain ⟨U9, hU9⟩ : ∃ V, (((V9.setCell ⟨V8.heap.size, 0, none⟩ (.int .i64 (-(12 * y + m)))).setCell ⟨V8.heap.size, 1, none⟩ (.int .i64 (-(86400 * d + 3600 * h + 60 * n + s)))).setCell ⟨V8.heap.size, 2, none⟩ (.int .i64 (-500000000))) = V := ⟨_, rfl⟩
        rw [hU9]
        have hF : Fro (fun i => i = V8.heap.size) V9 U9 := by rw [← hU9]; exact (((Fro.refl (fun i => i = V8.heap.size) V9).set (Or.inl rfl) _).set (Or.inl rfl) _).set (Or.inl rfl) _
        replace x9 : U9.heap[V8.heap.size]? = some (.cells (spC ⟨-(12 * y + m), -(86400 * d + 3600 * h + 60 * n + s), -500000000⟩) 26 (0, 0)) := by rw [← hU9]; exact bset (bset (bset x9 _) _) _
        replace x8 := hF.at x8 (by omega)
        have HB : Hid (Below w.heap.size w U9) := HB.out.trans (hF.toBelow HB.out.size (fun i hi h => by omega))
        clear hF hU9 b0' b1' b2' f0' f1' f2'
        obtain ⟨a0', a1', a2'⟩ := blk3 x8
        obtain ⟨b0', b1', b2'⟩ := blk3 x9
        clear x8 x9
        go_wp2_with fail
        go_ret
        exact ⟨rfl, HB.out⟩
end Go.Proofs.Ytijcbgjlofcdfab
