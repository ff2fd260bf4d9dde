/- DecForms: the walk. -/
import Derived.Test.YtakemkhgaicckaaL1
import Derived.Test.YtakemkhgaicckaaF0
import Derived.Test.YtakemkhgaicckaaD6
import Derived.Deep.RegionHeld3
namespace Go.Proofs.Ytakemkhgaicckaa
open Go.RowKit
set_option linter.unusedVariables false
set_option linter.unusedSimpArgs false

def fdS (l : List Int) : List Int := l.map fun d => 48 + d % 10
theorem fd_dgs (l : List Int) : dgs (fdS l) = true := by
  unfold dgs fdS
  rw [List.all_eq_true]
  intro c hc
  obtain ⟨d, _, rfl⟩ := List.mem_map.1 hc
  simp
  omega
theorem fd_len (l : List Int) : (fdS l).length = l.length := by unfold fdS; simp
theorem fd_take {l : List Int} {i : Nat} (h : i < l.length) : fdS (l.take (i + 1)) = fdS (l.take i) ++ [48 + (l[i]'h) % 10] := by
  unfold fdS
  rw [List.take_succ_eq_append_getElem h, List.map_append]
  rfl
/-- One letter as a text. -/
theorem one_str (w : World) (c : Int) (h0 : 0 ≤ c) (h1 : c < 256) : ∃ s : ByteArray, (convert 22 9 (.slice (some ⟨w.heap.size, 0, none⟩) 1 1)).run Try.prog (w.alloc (.cells #[.int .u8 c] 5)) = .ok (.string s) (w.alloc (.cells #[.int .u8 c] 5)) ∧ bl s = [c] ∧ s.size = 1 := by
  have hbt : BtR (w.alloc (.cells #[.int .u8 c] 5)) (.slice (some ⟨w.heap.size, 0, none⟩) 1 1) [c] := by
    refine ⟨_, _, rfl, Nat.le_refl _, by unfold maxLen; omega, fun d hd => by simp at hd; omega, .inr ⟨w.heap.size, 0, rfl, by simp, fun i hi => ?_⟩⟩
    have : i = 0 := by simp at hi; omega
    subst this
    simp
  have hb : bl (sb [c]) = [c] := bl_sb (by intro d hd; simp at hd; omega)
  exact ⟨_, conv_str hbt, hb, by rw [← bl_len, hb]; rfl⟩
theorem sz1 (c : UInt8) : (⟨#[c]⟩ : ByteArray).size = 1 := rfl
theorem forms_b (gs : ByteArray) {g : Int} (hgs : bl gs = [g]) (hg : g = 43 ∨ g = 45) {sA sB sZ : ByteArray} {l1 l2 : List Int} {k : Nat} (hA : bl sA = fdS l1) (hB : bl sB = fdS l2) (hZ : bl sZ = List.replicate k 48) (h1 : l1.length ≤ 60) (h2 : l2.length ≤ 60) (h3 : k ≤ 60) :
    ∃ n m : Nm, parS (bl (gs ++ (⟨#[48]⟩ : ByteArray) ++ sA ++ (⟨#[46]⟩ : ByteArray) ++ sB)) = .ok n ∧ parS (bl (gs ++ sZ ++ (⟨#[48]⟩ : ByteArray) ++ sA ++ (⟨#[46]⟩ : ByteArray) ++ sB ++ sZ)) = .ok n ∧ parS (bl (gs ++ (⟨#[48]⟩ : ByteArray) ++ sA ++ sB)) = .ok m ∧ (l2 = [] → m = n) ∧ n.2.2 ≤ l2.length ∧ n.2.1.length ≤ 600 ∧ m.2.1.length ≤ 600 := by
  obtain ⟨n, m, f1, f2, f3, f4, f5, f6, f7⟩ := forms3 (k := k) hg (fd_dgs l1) (fd_dgs l2) (by rw [fd_len]; exact h1) (by rw [fd_len]; exact h2) h3
  have e48 : bl (⟨#[48]⟩ : ByteArray) = [48] := rfl
  have e46 : bl (⟨#[46]⟩ : ByteArray) = [46] := rfl
  refine ⟨n, m, ?_, ?_, ?_, fun e => f4 (by rw [e]; rfl), by rw [fd_len] at f5; exact f5, f6, f7⟩
  · rw [← f1]
    simp [bl_app, hgs, hA, hB, e48, e46]
  · rw [← f2]
    simp [bl_app, hgs, hA, hB, hZ, e48, e46]
  · rw [← f3]
    simp [bl_app, hgs, hA, hB, e48, e46]
theorem le_al {w W : World} (h : w.heap.size ≤ W.heap.size) (o : Obj) : w.heap.size ≤ (W.alloc o).heap.size := by simp; omega
set_option maxRecDepth 100000 in
set_option maxHeartbeats 6400000 in
theorem forms_s (P : Prg) {v1 v2 : Value} {l1 l2 : List Int} (k : Int) (neg : Bool) (w : World) (h1 : BtR w v1 l1) (h2 : BtR w v2 l2) (hk0 : -9223372036854775808 ≤ k) (hk1 : k ≤ 9223372036854775807) : Calls Try.prog 5 #[v1, v2, .int .i64 k, .bool neg] w fun e w' => e = .returned (.bool true) ∧ Below w.heap.size w w' := by
  have HP : Hid _ := P
  obtain ⟨a1, c1, rfl, hc1, hm1⟩ := h1.form
  obtain ⟨a2, c2, rfl, hc2, hm2⟩ := h2.form
  unfold maxLen at hm1 hm2
  have HR : Hid _ := And.intro h1 h2
  clear h1 h2 P
  by_cases p1 : 60 < (l1.length : Int)
  · go_enter Try.func5, Try.ntmps5
    go_wp2_with (first | (go_at_call 7; refine Calls.mono (known_s HP.out _) ?_; rintro e w0 ⟨rfl, hb0⟩))
    go_ret
    exact ⟨rfl, hb0⟩
  by_cases p2 : 60 < (l2.length : Int)
  · go_enter Try.func5, Try.ntmps5
    go_wp2_with (first | (go_at_call 7; refine Calls.mono (known_s HP.out _) ?_; rintro e w0 ⟨rfl, hb0⟩))
    go_ret
    exact ⟨rfl, hb0⟩
  by_cases p3 : k < 0
  · go_enter Try.func5, Try.ntmps5
    go_wp2_with (first | (go_at_call 7; refine Calls.mono (known_s HP.out _) ?_; rintro e w0 ⟨rfl, hb0⟩))
    go_ret
    exact ⟨rfl, hb0⟩
  by_cases p4 : 60 < k
  · go_enter Try.func5, Try.ntmps5
    go_wp2_with (first | (go_at_call 7; refine Calls.mono (known_s HP.out _) ?_; rintro e w0 ⟨rfl, hb0⟩))
    go_ret
    exact ⟨rfl, hb0⟩
  obtain ⟨z, rfl⟩ : ∃ z : Nat, k = z := ⟨k.toNat, by omega⟩
  have hz : z ≤ 60 := by omega
  have hl1 : l1.length ≤ 60 := by omega
  have hl2 : l2.length ≤ 60 := by omega
  go_enter Try.func5, Try.ntmps5
  go_wp2_with (first | (go_at_call 7; refine Calls.mono (known_s HP.out _) ?_; rintro e w0 ⟨rfl, hb0⟩))
  have HB0 : Hid _ := hb0
  clear hb0
  go_loopg [9, 12] l1.length (fun m vs vi wr => ∃ (i : Nat) (sx : ByteArray), vs = .string sx ∧ vi = .int .i64 i ∧ i + m = l1.length ∧ sx.size ≤ 60 ∧ Hid (Below w.heap.size w wr ∧ bl sx = fdS (l1.take i) ∧ sx.size = i))
  case atStart => exact ⟨0, _, rfl, rfl, by omega, by show 0 ≤ 60; omega, HB0.out, rfl, rfl⟩
  case round =>
    obtain ⟨i, sx, rfl, rfl, him, hsx, hI⟩ := hrel
    by_cases hi : i < l1.length
    · obtain ⟨m, rfl⟩ : ∃ m, gk = m + 1 := ⟨gk - 1, by omega⟩
      have hbt := HR.out.1.below hI.out.1
      obtain ⟨g, o, rfl, hg, hc⟩ := hbt.cell (fun e => by rw [e] at hi; simp at hi)
      have x0 := hc i hi
      have hbd := hbt.byte _ (List.getElem_mem hi)
      have hft := fd_take hi
      clear hc hbt
      generalize (l1[i]'hi) = d at *
      obtain ⟨hd0, hd1⟩ := hbd
      obtain ⟨cs, hcv, hbc, hsc⟩ := one_str wr (48 + d % 10) (by omega) (by omega)
      have hal : Below w.heap.size w (wr.alloc (.cells #[.int .u8 (48 + d % 10)] 5)) := hI.out.1.alloc hI.out.1.size _
      have HJ : Hid _ := And.intro hal (And.intro (show bl (sx ++ cs) = fdS (l1.take (i + 1)) by rw [bl_app, hI.out.2.1, hbc, hft]) (show (sx ++ cs).size = i + 1 by rw [ByteArray.size_append, hI.out.2.2, hsc]))
      have hsc2 : cs.size ≤ 1 := by omega
      clear hal hft hbc hsc
      go_wp2_with fail
      go_roundg m
      case measure => omega
      case rel => exact ⟨i + 1, sx ++ cs, rfl, by simp, by omega, by have := HJ.out.2.2; omega, HJ.out⟩
    · obtain rfl : i = l1.length := by omega
      have hIe := hI.out
      rw [List.take_length] at hIe
      have HA : Hid _ := hIe
      clear hIe hI hi
      obtain ⟨sA, hsA⟩ : ∃ s', s' = sx := ⟨_, rfl⟩
      subst hsA
      have hzsA : sA.size ≤ 60 := hsx
      go_wp2_with fail
      obtain ⟨wA, hwA⟩ : ∃ w9, w9 = wr := ⟨_, rfl⟩
      subst hwA
      go_loopg [10, 13] l2.length (fun m vs vi wr => ∃ (i : Nat) (sx : ByteArray), vs = .string sx ∧ vi = .int .i64 i ∧ i + m = l2.length ∧ sx.size ≤ 60 ∧ Hid (Below w.heap.size w wr ∧ bl sx = fdS (l2.take i) ∧ sx.size = i))
      case atStart => exact ⟨0, _, rfl, rfl, by omega, by show 0 ≤ 60; omega, HA.out.1, rfl, rfl⟩
      case round =>
        obtain ⟨i, sx, rfl, rfl, him, hsx, hI⟩ := hrel
        by_cases hi : i < l2.length
        · obtain ⟨m, rfl⟩ : ∃ m, gk = m + 1 := ⟨gk - 1, by omega⟩
          have hbt := HR.out.2.below hI.out.1
          obtain ⟨g, o, rfl, hg, hc⟩ := hbt.cell (fun e => by rw [e] at hi; simp at hi)
          have x0 := hc i hi
          have hbd := hbt.byte _ (List.getElem_mem hi)
          have hft := fd_take hi
          clear hc hbt
          generalize (l2[i]'hi) = d at *
          obtain ⟨hd0, hd1⟩ := hbd
          obtain ⟨cs, hcv, hbc, hsc⟩ := one_str wr (48 + d % 10) (by omega) (by omega)
          have hal : Below w.heap.size w (wr.alloc (.cells #[.int .u8 (48 + d % 10)] 5)) := hI.out.1.alloc hI.out.1.size _
          have HJ : Hid _ := And.intro hal (And.intro (show bl (sx ++ cs) = fdS (l2.take (i + 1)) by rw [bl_app, hI.out.2.1, hbc, hft]) (show (sx ++ cs).size = i + 1 by rw [ByteArray.size_append, hI.out.2.2, hsc]))
          have hsc2 : cs.size ≤ 1 := by omega
          clear hal hft hbc hsc
          go_wp2_with fail
          go_roundg m
          case measure => omega
          case rel => exact ⟨i + 1, sx ++ cs, rfl, by simp, by omega, by have := HJ.out.2.2; omega, HJ.out⟩
        · obtain rfl : i = l2.length := by omega
          have hIe := hI.out
          rw [List.take_length] at hIe
          have HE : Hid _ := hIe
          clear hIe hI hi
          obtain ⟨sB, hsB⟩ : ∃ s', s' = sx := ⟨_, rfl⟩
          subst hsB
          have hzsB : sB.size ≤ 60 := hsx
          go_wp2_with fail
          obtain ⟨wB, hwB⟩ : ∃ w9, w9 = wr := ⟨_, rfl⟩
          subst hwB
          go_loopg [11, 14] z (fun m vs vi wr => ∃ (i : Nat) (sx : ByteArray), vs = .string sx ∧ vi = .int .i64 i ∧ i + m = z ∧ sx.size ≤ 60 ∧ wr = wB ∧ Hid (bl sx = List.replicate i 48 ∧ sx.size = i))
          case atStart => exact ⟨0, _, rfl, rfl, by omega, by show 0 ≤ 60; omega, rfl, rfl, rfl⟩
          case round =>
            obtain ⟨i, sx, rfl, rfl, him, hsx, hwr, hI⟩ := hrel
            subst hwr
            by_cases hi : i < z
            · obtain ⟨m, rfl⟩ : ∃ m, gk = m + 1 := ⟨gk - 1, by omega⟩
              have HJ : Hid _ := And.intro (show bl (sx ++ ⟨#[48]⟩) = List.replicate (i + 1) 48 by rw [bl_app, hI.out.1, List.replicate_succ']; rfl) (show (sx ++ ⟨#[48]⟩ : ByteArray).size = i + 1 by rw [ByteArray.size_append, hI.out.2]; rfl)
              have hii : (i : Int) < (z : Int) := by omega
              go_wp2_with fail
              go_roundg m
              case measure => omega
              case rel => exact ⟨i + 1, sx ++ (⟨#[48]⟩ : ByteArray), rfl, by simp, by omega, by have := HJ.out.2; omega, rfl, HJ.out⟩
            · obtain rfl : i = z := by omega
              have HZ : Hid _ := hI.out
              clear hI hi
              obtain ⟨sZ, hsZ⟩ : ∃ s', s' = sx := ⟨_, rfl⟩
              subst hsZ
              have hzsZ : sZ.size ≤ 60 := hsx
              cases neg
              case' false =>
                have HF : Hid _ := forms_b ⟨#[43]⟩ (g := 43) rfl (.inl rfl) HA.out.2.1 HE.out.2.1 HZ.out.1 hl1 hl2 hz
                go_wp2_with fail
              case' true =>
                have HF : Hid _ := forms_b ⟨#[45]⟩ (g := 45) rfl (.inr rfl) HA.out.2.1 HE.out.2.1 HZ.out.1 hl1 hl2 hz
                go_wp2_with fail
              all_goals
                obtain ⟨n, m, f1, f2, f3, f4, f5, f6, f7⟩ := HF.out
                have HF2 : Hid _ := And.intro f1 (And.intro f2 (And.intro f3 (And.intro f4 f5)))
                clear f1 f2 f3 f4 f5 HF
                refine Calls.mono (HP.out.parse _ _ (by unfold maxLen; simp only [ByteArray.size_append, sz1]; omega)) ?_
                rintro e w1 hp1
                obtain ⟨b1, d1, rfl, hn1, hb1⟩ := hp1.ok HF2.out.1 (by omega)
                obtain ⟨hx1, hba1⟩ := BxN.mk' (t := 25) hn1
                have hbx := HE.out.1.trans (hb1.mono HE.out.1.size)
                have H1 : Hid _ := And.intro hx1 (hbx.trans (hba1.mono hbx.size))
                clear hp1 hn1 hb1 hbx hx1 hba1
                go_wp2_with fail
                generalize (w1.alloc (.cells #[.bool n.1, .slice b1 n.2.1.length d1, .int .i64 n.2.2] 25)) = U1 at *
                refine Calls.mono (HP.out.parse _ _ (by unfold maxLen; simp only [ByteArray.size_append, sz1]; omega)) ?_
                rintro e w2 hp2
                obtain ⟨b2, d2, rfl, hn2, hb2⟩ := hp2.ok HF2.out.2.1 (by omega)
                obtain ⟨hx2, hba2⟩ := BxN.mk' (t := 25) hn2
                have hbU := hb2.trans (hba2.mono hb2.size)
                have H2 : Hid _ := And.intro (H1.out.1.below hbU) (And.intro hx2 (H1.out.2.trans (hbU.mono H1.out.2.size)))
                clear hp2 hn2 hb2 hx2 hba2 hbU H1
                go_wp2_with fail
                generalize (w2.alloc (.cells #[.bool n.1, .slice b2 n.2.1.length d2, .int .i64 n.2.2] 25)) = U2 at *
                refine Calls.mono (HP.out.parse _ _ (by unfold maxLen; simp only [ByteArray.size_append, sz1]; omega)) ?_
                rintro e w3 hp3
                obtain ⟨b3, d3, rfl, hn3, hb3⟩ := hp3.ok HF2.out.2.2.1 (by omega)
                obtain ⟨hx3, hba3⟩ := BxN.mk' (t := 25) hn3
                have hbU := hb3.trans (hba3.mono hb3.size)
                have H3 : Hid _ := And.intro (H2.out.1.below hbU) (And.intro (H2.out.2.1.below hbU) (And.intro hx3 (H2.out.2.2.trans (hbU.mono H2.out.2.2.size))))
                clear hp3 hn3 hb3 hx3 hba3 hbU H2
                go_upto_region 26 with fail
                generalize (w3.alloc (.cells #[.bool m.1, .slice b3 m.2.1.length d3, .int .i64 m.2.2] 25)) = U3 at *
                have HB : Hid (Below U3.heap.size U3 U3.drew) := Below.drewN' 1
                have hkp : ∀ W, Below U3.heap.size U3 W → (W.cell? ⟨w1.heap.size, 0, none⟩ = some (.bool n.1) ∧ W.cell? ⟨w1.heap.size, 1, none⟩ = some (.slice b1 n.2.1.length d1) ∧ W.cell? ⟨w1.heap.size, 2, none⟩ = some (.int .i64 n.2.2)) ∧ (W.cell? ⟨w2.heap.size, 0, none⟩ = some (.bool n.1) ∧ W.cell? ⟨w2.heap.size, 1, none⟩ = some (.slice b2 n.2.1.length d2) ∧ W.cell? ⟨w2.heap.size, 2, none⟩ = some (.int .i64 n.2.2)) ∧ (W.cell? ⟨w3.heap.size, 0, none⟩ = some (.bool m.1) ∧ W.cell? ⟨w3.heap.size, 1, none⟩ = some (.slice b3 m.2.1.length d3) ∧ W.cell? ⟨w3.heap.size, 2, none⟩ = some (.int .i64 m.2.2)) := fun W hb => ⟨boxK H3.out.1.bx W hb, boxK H3.out.2.1.bx W hb, boxK H3.out.2.2.1.bx W hb⟩
                have HKP : Hid _ := hkp
                obtain ⟨⟨g00, g01, g02⟩, ⟨g10, g11, g12⟩, ⟨g20, g21, g22⟩⟩ := hkp U3 (Below.refl _ _)
                clear hkp
                have hc0 : cmpS n n = 0 := (cmp_zero H3.out.1.nm.cn H3.out.1.nm.cn).2 rfl
                have q1 := fun W (hb : Below U3.heap.size U3 W) => HP.out.cmp (H3.out.1.below hb).nm (H3.out.2.1.below hb).nm
                rw [hc0] at q1
                have q2 := fun W (hb : Below U3.heap.size U3 W) => HP.out.text (H3.out.1.below hb).nm
                have q3 := fun W (hb : Below U3.heap.size U3 W) => HP.out.text (H3.out.2.1.below hb).nm
                have q4 := fun W (hb : Below U3.heap.size U3 W) => HP.out.total (H3.out.1.below hb).nm
                have q5 := fun W (hb : Below U3.heap.size U3 W) => HP.out.total (H3.out.2.1.below hb).nm
                have q6 := fun W (hb : Below U3.heap.size U3 W) => HP.out.frac (H3.out.1.below hb).nm
                have q7 := fun W (hb : Below U3.heap.size U3 W) => HP.out.frac (H3.out.2.1.below hb).nm
                have q8 := fun W (hb : Below U3.heap.size U3 W) => HP.out.cmp (H3.out.1.below hb).nm (H3.out.2.2.1.below hb).nm
                generalize sb (txS n) = tx at *
                generalize totS n.2.1 n.2.2 = TT at *
                have HC : Hid _ := And.intro q1 (And.intro q2 (And.intro q3 (And.intro q4 (And.intro q5 (And.intro q6 (And.intro q7 q8))))))
                clear q1 q2 q3 q4 q5 q6 q7 q8 hc0
                have hw0 : IntKind.i64.wrap 0 = 0 := by decide
                have hfr : (n.2.2 : Int) ≤ (l2.length : Int) := by have := HF2.out.2.2.2.2; omega
                by_cases hpos : 0 < (l2.length : Int)
                · have hdp : decide (0 < (l2.length : Int)) = true := decide_eq_true hpos
                  have hposN : 0 < l2.length := by omega
                  have hfd : decide ((n.2.2 : Int) ≤ (l2.length : Int)) = true := decide_eq_true hfr
                  refine wp_region_held_drew (S := (fun W => W.cell? ⟨w1.heap.size, 0, none⟩ = some (.bool n.1) ∧ W.cell? ⟨w1.heap.size, 1, none⟩ = some (.slice b1 n.2.1.length d1) ∧ W.cell? ⟨w1.heap.size, 2, none⟩ = some (.int .i64 n.2.2) ∧ W.cell? ⟨w2.heap.size, 0, none⟩ = some (.bool n.1) ∧ W.cell? ⟨w2.heap.size, 1, none⟩ = some (.slice b2 n.2.1.length d2) ∧ W.cell? ⟨w2.heap.size, 2, none⟩ = some (.int .i64 n.2.2) ∧ W.cell? ⟨w3.heap.size, 0, none⟩ = some (.bool m.1) ∧ W.cell? ⟨w3.heap.size, 1, none⟩ = some (.slice b3 m.2.1.length d3) ∧ W.cell? ⟨w3.heap.size, 2, none⟩ = some (.int .i64 m.2.2))) (by kernel_rfl) (⟨g00, g01, g02, g10, g11, g12, g20, g21, g22⟩) (fun hHeld => ?_)
                  refine wpAnyH_take (i := 0) (v := (.int .i64 0)) rfl (by kernel_rfl) (by kernel_rfl) (by kernel_rfl) (fun _ _ _ h => h) (Or.inl ⟨by kernel_rfl, fun w' hSw => (by (try dsimp only at hSw); go_simp)⟩) (by assumption) ?_
                  try simp only [Act.put, List.setIfInBounds_toArray, List.set_cons_zero, List.set_cons_succ, List.getElem_toArray, List.getElem_cons_succ, List.getElem_cons_zero]
                  refine wpAnyH_take (i := 1) (v := (.int .i64 0)) rfl (by kernel_rfl) (by kernel_rfl) (by kernel_rfl) (fun _ _ _ h => h) (Or.inl ⟨by kernel_rfl, fun w' hSw => (by (try dsimp only at hSw); go_simp)⟩) (by assumption) ?_
                  try simp only [Act.put, List.setIfInBounds_toArray, List.set_cons_zero, List.set_cons_succ, List.getElem_toArray, List.getElem_cons_succ, List.getElem_cons_zero]
                  refine wpAnyH_take (i := 2) (v := (.int .i64 0)) rfl (by kernel_rfl) (by kernel_rfl) (by kernel_rfl) (fun _ _ _ h => h) (Or.inl ⟨by kernel_rfl, fun w' hSw => (by (try dsimp only at hSw); go_simp)⟩) (by assumption) ?_
                  try simp only [Act.put, List.setIfInBounds_toArray, List.set_cons_zero, List.set_cons_succ, List.getElem_toArray, List.getElem_cons_succ, List.getElem_cons_zero]
                  refine wpAnyH_take (i := 3) (v := (.int .i64 0)) rfl (by kernel_rfl) (by kernel_rfl) (by kernel_rfl) (fun _ _ _ h => h) (Or.inl ⟨by kernel_rfl, fun w' hSw => (by (try dsimp only at hSw); go_simp)⟩) (by assumption) ?_
                  try simp only [Act.put, List.setIfInBounds_toArray, List.set_cons_zero, List.set_cons_succ, List.getElem_toArray, List.getElem_cons_succ, List.getElem_cons_zero]
                  refine wpAnyH_take (i := 4) (v := (.int .i64 0)) rfl (by kernel_rfl) (by kernel_rfl) (by kernel_rfl) (fun _ _ _ h => h) (Or.inl ⟨by kernel_rfl, fun w' hSw => (by (try dsimp only at hSw); go_simp)⟩) (by assumption) ?_
                  try simp only [Act.put, List.setIfInBounds_toArray, List.set_cons_zero, List.set_cons_succ, List.getElem_toArray, List.getElem_cons_succ, List.getElem_cons_zero]
                  refine wpAnyH_take (i := 5) (v := (.bool true)) rfl (by kernel_rfl) (by kernel_rfl) (by kernel_rfl) (fun _ _ _ h => h) (Or.inl ⟨by kernel_rfl, fun w' hSw => (by (try dsimp only at hSw); go_simp)⟩) (by assumption) ?_
                  try simp only [Act.put, List.setIfInBounds_toArray, List.set_cons_zero, List.set_cons_succ, List.getElem_toArray, List.getElem_cons_succ, List.getElem_cons_zero]
                  refine wpAnyH_take (i := 6) (v := (.bool true)) rfl (by kernel_rfl) (by kernel_rfl) (by kernel_rfl) (fun _ _ _ h => h) (Or.inl ⟨by kernel_rfl, fun w' hSw => (by (try dsimp only at hSw); go_simp)⟩) (by assumption) ?_
                  try simp only [Act.put, List.setIfInBounds_toArray, List.set_cons_zero, List.set_cons_succ, List.getElem_toArray, List.getElem_cons_succ, List.getElem_cons_zero]
                  refine wpAnyH_take (i := 7) (v := (.agg #[.bool n.1, .slice b1 n.2.1.length d1, .int .i64 n.2.2])) rfl (by kernel_rfl) (by kernel_rfl) (by kernel_rfl) (fun _ _ _ h => h) (Or.inl ⟨by kernel_rfl, fun w' hSw => (by (try dsimp only at hSw); go_simp)⟩) (by assumption) ?_
                  try simp only [Act.put, List.setIfInBounds_toArray, List.set_cons_zero, List.set_cons_succ, List.getElem_toArray, List.getElem_cons_succ, List.getElem_cons_zero]
                  refine wpAnyH_take (i := 8) (v := (.agg #[.bool n.1, .slice b2 n.2.1.length d2, .int .i64 n.2.2])) rfl (by kernel_rfl) (by kernel_rfl) (by kernel_rfl) (fun _ _ _ h => h) (Or.inl ⟨by kernel_rfl, fun w' hSw => (by (try dsimp only at hSw); go_simp)⟩) (by assumption) ?_
                  try simp only [Act.put, List.setIfInBounds_toArray, List.set_cons_zero, List.set_cons_succ, List.getElem_toArray, List.getElem_cons_succ, List.getElem_cons_zero]
                  refine wpAnyH_ready (rs := [9]) (by kernel_rfl) (by simp) ?_
                  refine AllReadyH.cons rfl (fun K hK => ?_) AllReadyH.nil
                  go_simp
                  refine Calls.mono (HC.out.1 _ HB.out) ?_
                  rintro e w9 ⟨rfl, hb9⟩
                  clear hHeld
                  have hbb := HB.out.trans (hb9.mono HB.out.size)
                  clear HB g00 g01 g02 g10 g11 g12 g20 g21 g22
                  obtain ⟨⟨g00, g01, g02⟩, ⟨g10, g11, g12⟩, ⟨g20, g21, g22⟩⟩ := HKP.out _ hbb
                  have HB : Hid _ := hbb
                  clear hbb hb9
                  go_wp2_with fail
                  refine hK.out _ _ (⟨g00, g01, g02, g10, g11, g12, g20, g21, g22⟩) (fun hHeld => ?_)
                  clear hK K
                  try simp only [Act.put, List.setIfInBounds_toArray, List.set_cons_zero, List.set_cons_succ, List.getElem_toArray, List.getElem_cons_succ, List.getElem_cons_zero]
                  refine wpAnyH_take (i := 10) (v := (.bool true)) rfl (by kernel_rfl) (by kernel_rfl) (by kernel_rfl) (fun _ _ _ h => h) (Or.inl ⟨by kernel_rfl, fun w' hSw => (by (try dsimp only at hSw); go_simp)⟩) (by assumption) ?_
                  try simp only [Act.put, List.setIfInBounds_toArray, List.set_cons_zero, List.set_cons_succ, List.getElem_toArray, List.getElem_cons_succ, List.getElem_cons_zero]
                  refine wpAnyH_take (i := 11) (v := (.bool true)) rfl (by kernel_rfl) (by kernel_rfl) (by kernel_rfl) (fun _ _ _ h => h) (Or.inl ⟨by kernel_rfl, fun w' hSw => (by (try dsimp only at hSw); go_simp)⟩) (by assumption) ?_
                  try simp only [Act.put, List.setIfInBounds_toArray, List.set_cons_zero, List.set_cons_succ, List.getElem_toArray, List.getElem_cons_succ, List.getElem_cons_zero]
                  refine wpAnyH_take (i := 12) (v := (.bool true)) rfl (by kernel_rfl) (by kernel_rfl) (by kernel_rfl) (fun _ _ _ h => h) (Or.inl ⟨by kernel_rfl, fun w' hSw => (by (try dsimp only at hSw); go_simp)⟩) (by assumption) ?_
                  try simp only [Act.put, List.setIfInBounds_toArray, List.set_cons_zero, List.set_cons_succ, List.getElem_toArray, List.getElem_cons_succ, List.getElem_cons_zero]
                  refine wpAnyH_take (i := 13) (v := (.agg #[.bool n.1, .slice b1 n.2.1.length d1, .int .i64 n.2.2])) rfl (by kernel_rfl) (by kernel_rfl) (by kernel_rfl) (fun _ _ _ h => h) (Or.inl ⟨by kernel_rfl, fun w' hSw => (by (try dsimp only at hSw); go_simp)⟩) (by assumption) ?_
                  try simp only [Act.put, List.setIfInBounds_toArray, List.set_cons_zero, List.set_cons_succ, List.getElem_toArray, List.getElem_cons_succ, List.getElem_cons_zero]
                  refine wpAnyH_take (i := 15) (v := (.agg #[.bool n.1, .slice b2 n.2.1.length d2, .int .i64 n.2.2])) rfl (by kernel_rfl) (by kernel_rfl) (by kernel_rfl) (fun _ _ _ h => h) (Or.inl ⟨by kernel_rfl, fun w' hSw => (by (try dsimp only at hSw); go_simp)⟩) (by assumption) ?_
                  try simp only [Act.put, List.setIfInBounds_toArray, List.set_cons_zero, List.set_cons_succ, List.getElem_toArray, List.getElem_cons_succ, List.getElem_cons_zero]
                  refine wpAnyH_ready (rs := [14]) (by kernel_rfl) (by simp) ?_
                  refine AllReadyH.cons rfl (fun K hK => ?_) AllReadyH.nil
                  go_simp
                  refine Calls.mono (HC.out.2.1 _ HB.out) ?_
                  rintro e w9 ⟨rfl, hb9⟩
                  clear hHeld
                  have hbb := HB.out.trans (hb9.mono HB.out.size)
                  clear HB g00 g01 g02 g10 g11 g12 g20 g21 g22
                  obtain ⟨⟨g00, g01, g02⟩, ⟨g10, g11, g12⟩, ⟨g20, g21, g22⟩⟩ := HKP.out _ hbb
                  have HB : Hid _ := hbb
                  clear hbb hb9
                  go_wp2_with fail
                  refine hK.out _ _ (⟨g00, g01, g02, g10, g11, g12, g20, g21, g22⟩) (fun hHeld => ?_)
                  clear hK K
                  try simp only [Act.put, List.setIfInBounds_toArray, List.set_cons_zero, List.set_cons_succ, List.getElem_toArray, List.getElem_cons_succ, List.getElem_cons_zero]
                  refine wpAnyH_ready (rs := [16]) (by kernel_rfl) (by simp) ?_
                  refine AllReadyH.cons rfl (fun K hK => ?_) AllReadyH.nil
                  go_simp
                  refine Calls.mono (HC.out.2.2.1 _ HB.out) ?_
                  rintro e w9 ⟨rfl, hb9⟩
                  clear hHeld
                  have hbb := HB.out.trans (hb9.mono HB.out.size)
                  clear HB g00 g01 g02 g10 g11 g12 g20 g21 g22
                  obtain ⟨⟨g00, g01, g02⟩, ⟨g10, g11, g12⟩, ⟨g20, g21, g22⟩⟩ := HKP.out _ hbb
                  have HB : Hid _ := hbb
                  clear hbb hb9
                  go_wp2_with fail
                  refine hK.out _ _ (⟨g00, g01, g02, g10, g11, g12, g20, g21, g22⟩) (fun hHeld => ?_)
                  clear hK K
                  try simp only [Act.put, List.setIfInBounds_toArray, List.set_cons_zero, List.set_cons_succ, List.getElem_toArray, List.getElem_cons_succ, List.getElem_cons_zero]
                  refine wpAnyH_take (i := 17) (v := (.bool true)) rfl (by kernel_rfl) (by kernel_rfl) (by kernel_rfl) (fun _ _ _ h => h) (Or.inl ⟨by kernel_rfl, fun w' hSw => (by (try dsimp only at hSw); go_simp)⟩) (by assumption) ?_
                  try simp only [Act.put, List.setIfInBounds_toArray, List.set_cons_zero, List.set_cons_succ, List.getElem_toArray, List.getElem_cons_succ, List.getElem_cons_zero]
                  refine wpAnyH_take (i := 18) (v := (.bool true)) rfl (by kernel_rfl) (by kernel_rfl) (by kernel_rfl) (fun _ _ _ h => h) (Or.inl ⟨by kernel_rfl, fun w' hSw => (by (try dsimp only at hSw); go_simp)⟩) (by assumption) ?_
                  try simp only [Act.put, List.setIfInBounds_toArray, List.set_cons_zero, List.set_cons_succ, List.getElem_toArray, List.getElem_cons_succ, List.getElem_cons_zero]
                  refine wpAnyH_take (i := 19) (v := (.bool true)) rfl (by kernel_rfl) (by kernel_rfl) (by kernel_rfl) (fun _ _ _ h => h) (Or.inl ⟨by kernel_rfl, fun w' hSw => (by (try dsimp only at hSw); go_simp)⟩) (by assumption) ?_
                  try simp only [Act.put, List.setIfInBounds_toArray, List.set_cons_zero, List.set_cons_succ, List.getElem_toArray, List.getElem_cons_succ, List.getElem_cons_zero]
                  refine wpAnyH_take (i := 20) (v := (.agg #[.bool n.1, .slice b1 n.2.1.length d1, .int .i64 n.2.2])) rfl (by kernel_rfl) (by kernel_rfl) (by kernel_rfl) (fun _ _ _ h => h) (Or.inl ⟨by kernel_rfl, fun w' hSw => (by (try dsimp only at hSw); go_simp)⟩) (by assumption) ?_
                  try simp only [Act.put, List.setIfInBounds_toArray, List.set_cons_zero, List.set_cons_succ, List.getElem_toArray, List.getElem_cons_succ, List.getElem_cons_zero]
                  refine wpAnyH_take (i := 22) (v := (.agg #[.bool n.1, .slice b2 n.2.1.length d2, .int .i64 n.2.2])) rfl (by kernel_rfl) (by kernel_rfl) (by kernel_rfl) (fun _ _ _ h => h) (Or.inl ⟨by kernel_rfl, fun w' hSw => (by (try dsimp only at hSw); go_simp)⟩) (by assumption) ?_
                  try simp only [Act.put, List.setIfInBounds_toArray, List.set_cons_zero, List.set_cons_succ, List.getElem_toArray, List.getElem_cons_succ, List.getElem_cons_zero]
                  refine wpAnyH_ready (rs := [21]) (by kernel_rfl) (by simp) ?_
                  refine AllReadyH.cons rfl (fun K hK => ?_) AllReadyH.nil
                  go_simp
                  refine Calls.mono (HC.out.2.2.2.1 _ HB.out) ?_
                  rintro e w9 ⟨rfl, hb9⟩
                  clear hHeld
                  have hbb := HB.out.trans (hb9.mono HB.out.size)
                  clear HB g00 g01 g02 g10 g11 g12 g20 g21 g22
                  obtain ⟨⟨g00, g01, g02⟩, ⟨g10, g11, g12⟩, ⟨g20, g21, g22⟩⟩ := HKP.out _ hbb
                  have HB : Hid _ := hbb
                  clear hbb hb9
                  go_wp2_with fail
                  refine hK.out _ _ (⟨g00, g01, g02, g10, g11, g12, g20, g21, g22⟩) (fun hHeld => ?_)
                  clear hK K
                  try simp only [Act.put, List.setIfInBounds_toArray, List.set_cons_zero, List.set_cons_succ, List.getElem_toArray, List.getElem_cons_succ, List.getElem_cons_zero]
                  refine wpAnyH_ready (rs := [23]) (by kernel_rfl) (by simp) ?_
                  refine AllReadyH.cons rfl (fun K hK => ?_) AllReadyH.nil
                  go_simp
                  refine Calls.mono (HC.out.2.2.2.2.1 _ HB.out) ?_
                  rintro e w9 ⟨rfl, hb9⟩
                  clear hHeld
                  have hbb := HB.out.trans (hb9.mono HB.out.size)
                  clear HB g00 g01 g02 g10 g11 g12 g20 g21 g22
                  obtain ⟨⟨g00, g01, g02⟩, ⟨g10, g11, g12⟩, ⟨g20, g21, g22⟩⟩ := HKP.out _ hbb
                  have HB : Hid _ := hbb
                  clear hbb hb9
                  go_wp2_with fail
                  refine hK.out _ _ (⟨g00, g01, g02, g10, g11, g12, g20, g21, g22⟩) (fun hHeld => ?_)
                  clear hK K
                  try simp only [Act.put, List.setIfInBounds_toArray, List.set_cons_zero, List.set_cons_succ, List.getElem_toArray, List.getElem_cons_succ, List.getElem_cons_zero]
                  refine wpAnyH_take (i := 24) (v := (.bool true)) rfl (by kernel_rfl) (by kernel_rfl) (by kernel_rfl) (fun _ _ _ h => h) (Or.inl ⟨by kernel_rfl, fun w' hSw => (by (try dsimp only at hSw); go_simp)⟩) (by assumption) ?_
                  try simp only [Act.put, List.setIfInBounds_toArray, List.set_cons_zero, List.set_cons_succ, List.getElem_toArray, List.getElem_cons_succ, List.getElem_cons_zero]
                  refine wpAnyH_take (i := 25) (v := (.bool true)) rfl (by kernel_rfl) (by kernel_rfl) (by kernel_rfl) (fun _ _ _ h => h) (Or.inl ⟨by kernel_rfl, fun w' hSw => (by (try dsimp only at hSw); go_simp)⟩) (by assumption) ?_
                  try simp only [Act.put, List.setIfInBounds_toArray, List.set_cons_zero, List.set_cons_succ, List.getElem_toArray, List.getElem_cons_succ, List.getElem_cons_zero]
                  refine wpAnyH_take (i := 26) (v := (.bool true)) rfl (by kernel_rfl) (by kernel_rfl) (by kernel_rfl) (fun _ _ _ h => h) (Or.inl ⟨by kernel_rfl, fun w' hSw => (by (try dsimp only at hSw); go_simp)⟩) (by assumption) ?_
                  try simp only [Act.put, List.setIfInBounds_toArray, List.set_cons_zero, List.set_cons_succ, List.getElem_toArray, List.getElem_cons_succ, List.getElem_cons_zero]
                  refine wpAnyH_take (i := 27) (v := (.agg #[.bool n.1, .slice b1 n.2.1.length d1, .int .i64 n.2.2])) rfl (by kernel_rfl) (by kernel_rfl) (by kernel_rfl) (fun _ _ _ h => h) (Or.inl ⟨by kernel_rfl, fun w' hSw => (by (try dsimp only at hSw); go_simp)⟩) (by assumption) ?_
                  try simp only [Act.put, List.setIfInBounds_toArray, List.set_cons_zero, List.set_cons_succ, List.getElem_toArray, List.getElem_cons_succ, List.getElem_cons_zero]
                  refine wpAnyH_take (i := 29) (v := (.agg #[.bool n.1, .slice b2 n.2.1.length d2, .int .i64 n.2.2])) rfl (by kernel_rfl) (by kernel_rfl) (by kernel_rfl) (fun _ _ _ h => h) (Or.inl ⟨by kernel_rfl, fun w' hSw => (by (try dsimp only at hSw); go_simp)⟩) (by assumption) ?_
                  try simp only [Act.put, List.setIfInBounds_toArray, List.set_cons_zero, List.set_cons_succ, List.getElem_toArray, List.getElem_cons_succ, List.getElem_cons_zero]
                  refine wpAnyH_ready (rs := [28]) (by kernel_rfl) (by simp) ?_
                  refine AllReadyH.cons rfl (fun K hK => ?_) AllReadyH.nil
                  go_simp
                  refine Calls.mono (HC.out.2.2.2.2.2.1 _ HB.out) ?_
                  rintro e w9 ⟨rfl, hb9⟩
                  clear hHeld
                  have hbb := HB.out.trans (hb9.mono HB.out.size)
                  clear HB g00 g01 g02 g10 g11 g12 g20 g21 g22
                  obtain ⟨⟨g00, g01, g02⟩, ⟨g10, g11, g12⟩, ⟨g20, g21, g22⟩⟩ := HKP.out _ hbb
                  have HB : Hid _ := hbb
                  clear hbb hb9
                  go_wp2_with fail
                  refine hK.out _ _ (⟨g00, g01, g02, g10, g11, g12, g20, g21, g22⟩) (fun hHeld => ?_)
                  clear hK K
                  try simp only [Act.put, List.setIfInBounds_toArray, List.set_cons_zero, List.set_cons_succ, List.getElem_toArray, List.getElem_cons_succ, List.getElem_cons_zero]
                  refine wpAnyH_ready (rs := [30]) (by kernel_rfl) (by simp) ?_
                  refine AllReadyH.cons rfl (fun K hK => ?_) AllReadyH.nil
                  go_simp
                  refine Calls.mono (HC.out.2.2.2.2.2.2.1 _ HB.out) ?_
                  rintro e w9 ⟨rfl, hb9⟩
                  clear hHeld
                  have hbb := HB.out.trans (hb9.mono HB.out.size)
                  clear HB g00 g01 g02 g10 g11 g12 g20 g21 g22
                  obtain ⟨⟨g00, g01, g02⟩, ⟨g10, g11, g12⟩, ⟨g20, g21, g22⟩⟩ := HKP.out _ hbb
                  have HB : Hid _ := hbb
                  clear hbb hb9
                  go_wp2_with fail
                  refine hK.out _ _ (⟨g00, g01, g02, g10, g11, g12, g20, g21, g22⟩) (fun hHeld => ?_)
                  clear hK K
                  try simp only [Act.put, List.setIfInBounds_toArray, List.set_cons_zero, List.set_cons_succ, List.getElem_toArray, List.getElem_cons_succ, List.getElem_cons_zero]
                  refine wpAnyH_take (i := 31) (v := (.bool true)) rfl (by kernel_rfl) (by kernel_rfl) (by kernel_rfl) (fun _ _ _ h => h) (Or.inl ⟨by kernel_rfl, fun w' hSw => (by (try dsimp only at hSw); go_simp)⟩) (by assumption) ?_
                  try simp only [Act.put, List.setIfInBounds_toArray, List.set_cons_zero, List.set_cons_succ, List.getElem_toArray, List.getElem_cons_succ, List.getElem_cons_zero]
                  refine wpAnyH_take (i := 32) (v := (.bool true)) rfl (by kernel_rfl) (by kernel_rfl) (by kernel_rfl) (fun _ _ _ h => h) (Or.inl ⟨by kernel_rfl, fun w' hSw => (by (try dsimp only at hSw); go_simp)⟩) (by assumption) ?_
                  try simp only [Act.put, List.setIfInBounds_toArray, List.set_cons_zero, List.set_cons_succ, List.getElem_toArray, List.getElem_cons_succ, List.getElem_cons_zero]
                  refine wpAnyH_take (i := 33) (v := (.bool true)) rfl (by kernel_rfl) (by kernel_rfl) (by kernel_rfl) (fun _ _ _ h => h) (Or.inl ⟨by kernel_rfl, fun w' hSw => (by (try dsimp only at hSw); go_simp)⟩) (by assumption) ?_
                  try simp only [Act.put, List.setIfInBounds_toArray, List.set_cons_zero, List.set_cons_succ, List.getElem_toArray, List.getElem_cons_succ, List.getElem_cons_zero]
                  refine wpAnyH_take (i := 34) (v := (.slice a2 l2.length c2)) rfl (by kernel_rfl) (by kernel_rfl) (by kernel_rfl) (fun _ _ _ h => h) (Or.inl ⟨by kernel_rfl, fun w' hSw => (by (try dsimp only at hSw); go_simp)⟩) (by assumption) ?_
                  try simp only [Act.put, List.setIfInBounds_toArray, List.set_cons_zero, List.set_cons_succ, List.getElem_toArray, List.getElem_cons_succ, List.getElem_cons_zero]
                  refine wpAnyH_take (i := 35) (v := (.int .i64 l2.length)) rfl (by kernel_rfl) (by kernel_rfl) (by kernel_rfl) (fun _ _ _ h => h) (Or.inl ⟨by kernel_rfl, fun w' hSw => (by (try dsimp only at hSw); go_simp)⟩) (by assumption) ?_
                  try simp only [Act.put, List.setIfInBounds_toArray, List.set_cons_zero, List.set_cons_succ, List.getElem_toArray, List.getElem_cons_succ, List.getElem_cons_zero]
                  refine wpAnyH_take (i := 36) (v := (.bool true)) rfl (by kernel_rfl) (by kernel_rfl) (by kernel_rfl) (fun _ _ _ h => h) (Or.inl ⟨by kernel_rfl, fun w' hSw => (by (try dsimp only at hSw); go_simp)⟩) (by assumption) ?_
                  try simp only [Act.put, List.setIfInBounds_toArray, List.set_cons_zero, List.set_cons_succ, List.getElem_toArray, List.getElem_cons_succ, List.getElem_cons_zero]
                  refine wpAnyH_take (i := 37) (v := (.bool true)) rfl (by kernel_rfl) (by kernel_rfl) (by kernel_rfl) (fun _ _ _ h => h) (Or.inl ⟨by kernel_rfl, fun w' hSw => (by (try dsimp only at hSw); go_simp)⟩) (by assumption) ?_
                  try simp only [Act.put, List.setIfInBounds_toArray, List.set_cons_zero, List.set_cons_succ, List.getElem_toArray, List.getElem_cons_succ, List.getElem_cons_zero]
                  refine wpAnyH_take (i := 38) (v := undef) rfl (by kernel_rfl) (by kernel_rfl) (by kernel_rfl) (fun _ _ _ h => h) (Or.inr ⟨by kernel_rfl, rfl⟩) (by assumption) ?_
                  try simp only [Act.put, List.setIfInBounds_toArray, List.set_cons_zero, List.set_cons_succ, List.getElem_toArray, List.getElem_cons_succ, List.getElem_cons_zero]
                  refine wpAnyH_take (i := 39) (v := undef) rfl (by kernel_rfl) (by kernel_rfl) (by kernel_rfl) (fun _ _ _ h => h) (Or.inr ⟨by kernel_rfl, rfl⟩) (by assumption) ?_
                  try simp only [Act.put, List.setIfInBounds_toArray, List.set_cons_zero, List.set_cons_succ, List.getElem_toArray, List.getElem_cons_succ, List.getElem_cons_zero]
                  refine wpAnyH_take (i := 40) (v := undef) rfl (by kernel_rfl) (by kernel_rfl) (by kernel_rfl) (fun _ _ _ h => h) (Or.inr ⟨by kernel_rfl, rfl⟩) (by assumption) ?_
                  try simp only [Act.put, List.setIfInBounds_toArray, List.set_cons_zero, List.set_cons_succ, List.getElem_toArray, List.getElem_cons_succ, List.getElem_cons_zero]
                  refine wpAnyH_take (i := 41) (v := undef) rfl (by kernel_rfl) (by kernel_rfl) (by kernel_rfl) (fun _ _ _ h => h) (Or.inr ⟨by kernel_rfl, rfl⟩) (by assumption) ?_
                  try simp only [Act.put, List.setIfInBounds_toArray, List.set_cons_zero, List.set_cons_succ, List.getElem_toArray, List.getElem_cons_succ, List.getElem_cons_zero]
                  refine wpAnyH_take (i := 42) (v := (.bool true)) rfl (by kernel_rfl) (by kernel_rfl) (by kernel_rfl) (fun _ _ _ h => h) (Or.inl ⟨by kernel_rfl, fun w' hSw => (by (try dsimp only at hSw); go_simp)⟩) (by assumption) ?_
                  try simp only [Act.put, List.setIfInBounds_toArray, List.set_cons_zero, List.set_cons_succ, List.getElem_toArray, List.getElem_cons_succ, List.getElem_cons_zero]
                  refine wpAnyH_take (i := 43) (v := (.bool true)) rfl (by kernel_rfl) (by kernel_rfl) (by kernel_rfl) (fun _ _ _ h => h) (Or.inl ⟨by kernel_rfl, fun w' hSw => (by (try dsimp only at hSw); go_simp)⟩) (by assumption) ?_
                  try simp only [Act.put, List.setIfInBounds_toArray, List.set_cons_zero, List.set_cons_succ, List.getElem_toArray, List.getElem_cons_succ, List.getElem_cons_zero]
                  refine wpAnyH_take (i := 44) (v := (.bool true)) rfl (by kernel_rfl) (by kernel_rfl) (by kernel_rfl) (fun _ _ _ h => h) (Or.inl ⟨by kernel_rfl, fun w' hSw => (by (try dsimp only at hSw); go_simp)⟩) (by assumption) ?_
                  try simp only [Act.put, List.setIfInBounds_toArray, List.set_cons_zero, List.set_cons_succ, List.getElem_toArray, List.getElem_cons_succ, List.getElem_cons_zero]
                  refine wpAnyH_take (i := 45) (v := (.agg #[.bool n.1, .slice b1 n.2.1.length d1, .int .i64 n.2.2])) rfl (by kernel_rfl) (by kernel_rfl) (by kernel_rfl) (fun _ _ _ h => h) (Or.inl ⟨by kernel_rfl, fun w' hSw => (by (try dsimp only at hSw); go_simp)⟩) (by assumption) ?_
                  try simp only [Act.put, List.setIfInBounds_toArray, List.set_cons_zero, List.set_cons_succ, List.getElem_toArray, List.getElem_cons_succ, List.getElem_cons_zero]
                  refine wpAnyH_take (i := 47) (v := (.slice a2 l2.length c2)) rfl (by kernel_rfl) (by kernel_rfl) (by kernel_rfl) (fun _ _ _ h => h) (Or.inl ⟨by kernel_rfl, fun w' hSw => (by (try dsimp only at hSw); go_simp)⟩) (by assumption) ?_
                  try simp only [Act.put, List.setIfInBounds_toArray, List.set_cons_zero, List.set_cons_succ, List.getElem_toArray, List.getElem_cons_succ, List.getElem_cons_zero]
                  refine wpAnyH_take (i := 48) (v := (.int .i64 l2.length)) rfl (by kernel_rfl) (by kernel_rfl) (by kernel_rfl) (fun _ _ _ h => h) (Or.inl ⟨by kernel_rfl, fun w' hSw => (by (try dsimp only at hSw); go_simp)⟩) (by assumption) ?_
                  try simp only [Act.put, List.setIfInBounds_toArray, List.set_cons_zero, List.set_cons_succ, List.getElem_toArray, List.getElem_cons_succ, List.getElem_cons_zero]
                  refine wpAnyH_ready (rs := [46]) (by kernel_rfl) (by simp) ?_
                  refine AllReadyH.cons rfl (fun K hK => ?_) AllReadyH.nil
                  go_simp
                  refine Calls.mono (HC.out.2.2.2.2.2.1 _ HB.out) ?_
                  rintro e w9 ⟨rfl, hb9⟩
                  clear hHeld
                  have hbb := HB.out.trans (hb9.mono HB.out.size)
                  clear HB g00 g01 g02 g10 g11 g12 g20 g21 g22
                  obtain ⟨⟨g00, g01, g02⟩, ⟨g10, g11, g12⟩, ⟨g20, g21, g22⟩⟩ := HKP.out _ hbb
                  have HB : Hid _ := hbb
                  clear hbb hb9
                  go_wp2_with fail
                  refine hK.out _ _ (⟨g00, g01, g02, g10, g11, g12, g20, g21, g22⟩) (fun hHeld => ?_)
                  clear hK K
                  try simp only [Act.put, List.setIfInBounds_toArray, List.set_cons_zero, List.set_cons_succ, List.getElem_toArray, List.getElem_cons_succ, List.getElem_cons_zero]
                  refine wpAnyH_take (i := 49) (v := (.bool true)) rfl (by kernel_rfl) (by kernel_rfl) (by kernel_rfl) (fun _ _ _ h => h) (Or.inl ⟨by kernel_rfl, fun w' hSw => (by (try dsimp only at hSw); go_simp)⟩) (by assumption) ?_
                  try simp only [Act.put, List.setIfInBounds_toArray, List.set_cons_zero, List.set_cons_succ, List.getElem_toArray, List.getElem_cons_succ, List.getElem_cons_zero]
                  refine wpAnyH_take (i := 50) (v := (.bool true)) rfl (by kernel_rfl) (by kernel_rfl) (by kernel_rfl) (fun _ _ _ h => h) (Or.inl ⟨by kernel_rfl, fun w' hSw => (by (try dsimp only at hSw); go_simp)⟩) (by assumption) ?_
                  try simp only [Act.put, List.setIfInBounds_toArray, List.set_cons_zero, List.set_cons_succ, List.getElem_toArray, List.getElem_cons_succ, List.getElem_cons_zero]
                  refine wpAnyH_take (i := 51) (v := (.bool true)) rfl (by kernel_rfl) (by kernel_rfl) (by kernel_rfl) (fun _ _ _ h => h) (Or.inl ⟨by kernel_rfl, fun w' hSw => (by (try dsimp only at hSw); go_simp)⟩) (by assumption) ?_
                  try simp only [Act.put, List.setIfInBounds_toArray, List.set_cons_zero, List.set_cons_succ, List.getElem_toArray, List.getElem_cons_succ, List.getElem_cons_zero]
                  refine wpAnyH_done (by kernel_rfl) ?_ _
                  go_wp2_with fail
                  go_ret
                  exact ⟨rfl, H3.out.2.2.2.trans (HB.out.mono H3.out.2.2.2.size)⟩
                · have hl0 : l2 = [] := List.eq_nil_of_length_eq_zero (by omega)
                  have hmn := HF2.out.2.2.2.1 hl0
                  subst hmn
                  subst hl0
                  have q9 := HC.out.2.2.2.2.2.2.2
                  rw [(cmp_zero H3.out.1.nm.cn H3.out.1.nm.cn).2 rfl] at q9
                  have HC9 : Hid _ := And.intro q9 trivial
                  clear q9
                  have hfe : m.2.2 = 0 := by have := HF2.out.2.2.2.2; simpa using this
                  have hfe1 : (m.2.2 : Int) ≤ 0 := by omega
                  have hfe2 : decide ((m.2.2 : Int) ≤ 0) = true := decide_eq_true hfe1
                  have HFE : Hid _ := And.intro hfe trivial
                  clear hfe hfr
                  simp only [List.length_nil] at *
                  go_region_held3 (fun W => W.cell? ⟨w1.heap.size, 0, none⟩ = some (.bool m.1) ∧ W.cell? ⟨w1.heap.size, 1, none⟩ = some (.slice b1 m.2.1.length d1) ∧ W.cell? ⟨w1.heap.size, 2, none⟩ = some (.int .i64 m.2.2) ∧ W.cell? ⟨w2.heap.size, 0, none⟩ = some (.bool m.1) ∧ W.cell? ⟨w2.heap.size, 1, none⟩ = some (.slice b2 m.2.1.length d2) ∧ W.cell? ⟨w2.heap.size, 2, none⟩ = some (.int .i64 m.2.2) ∧ W.cell? ⟨w3.heap.size, 0, none⟩ = some (.bool m.1) ∧ W.cell? ⟨w3.heap.size, 1, none⟩ = some (.slice b3 m.2.1.length d3) ∧ W.cell? ⟨w3.heap.size, 2, none⟩ = some (.int .i64 m.2.2)) (exact ⟨g00, g01, g02, g10, g11, g12, g20, g21, g22⟩) (first
                    | (go_at_call 22; (with_reducible refine Calls.mono (HC.out.1 _ HB.out) ?_); rintro e w9 ⟨rfl, hb9⟩; have hbb := HB.out.trans (hb9.mono HB.out.size); clear HB g00 g01 g02 g10 g11 g12 g20 g21 g22; obtain ⟨⟨g00, g01, g02⟩, ⟨g10, g11, g12⟩, ⟨g20, g21, g22⟩⟩ := HKP.out _ hbb; have HB : Hid _ := hbb; clear hbb hb9)
                    | (go_at_call 14; (with_reducible refine Calls.mono (HC.out.2.1 _ HB.out) ?_); rintro e w9 ⟨rfl, hb9⟩; have hbb := HB.out.trans (hb9.mono HB.out.size); clear HB g00 g01 g02 g10 g11 g12 g20 g21 g22; obtain ⟨⟨g00, g01, g02⟩, ⟨g10, g11, g12⟩, ⟨g20, g21, g22⟩⟩ := HKP.out _ hbb; have HB : Hid _ := hbb; clear hbb hb9)
                    | (go_at_call 14; (with_reducible refine Calls.mono (HC.out.2.2.1 _ HB.out) ?_); rintro e w9 ⟨rfl, hb9⟩; have hbb := HB.out.trans (hb9.mono HB.out.size); clear HB g00 g01 g02 g10 g11 g12 g20 g21 g22; obtain ⟨⟨g00, g01, g02⟩, ⟨g10, g11, g12⟩, ⟨g20, g21, g22⟩⟩ := HKP.out _ hbb; have HB : Hid _ := hbb; clear hbb hb9)
                    | (go_at_call 16; (with_reducible refine Calls.mono (HC.out.2.2.2.1 _ HB.out) ?_); rintro e w9 ⟨rfl, hb9⟩; have hbb := HB.out.trans (hb9.mono HB.out.size); clear HB g00 g01 g02 g10 g11 g12 g20 g21 g22; obtain ⟨⟨g00, g01, g02⟩, ⟨g10, g11, g12⟩, ⟨g20, g21, g22⟩⟩ := HKP.out _ hbb; have HB : Hid _ := hbb; clear hbb hb9)
                    | (go_at_call 16; (with_reducible refine Calls.mono (HC.out.2.2.2.2.1 _ HB.out) ?_); rintro e w9 ⟨rfl, hb9⟩; have hbb := HB.out.trans (hb9.mono HB.out.size); clear HB g00 g01 g02 g10 g11 g12 g20 g21 g22; obtain ⟨⟨g00, g01, g02⟩, ⟨g10, g11, g12⟩, ⟨g20, g21, g22⟩⟩ := HKP.out _ hbb; have HB : Hid _ := hbb; clear hbb hb9)
                    | (go_at_call 18; (with_reducible refine Calls.mono (HC.out.2.2.2.2.2.1 _ HB.out) ?_); rintro e w9 ⟨rfl, hb9⟩; have hbb := HB.out.trans (hb9.mono HB.out.size); clear HB g00 g01 g02 g10 g11 g12 g20 g21 g22; obtain ⟨⟨g00, g01, g02⟩, ⟨g10, g11, g12⟩, ⟨g20, g21, g22⟩⟩ := HKP.out _ hbb; have HB : Hid _ := hbb; clear hbb hb9)
                    | (go_at_call 18; (with_reducible refine Calls.mono (HC.out.2.2.2.2.2.2.1 _ HB.out) ?_); rintro e w9 ⟨rfl, hb9⟩; have hbb := HB.out.trans (hb9.mono HB.out.size); clear HB g00 g01 g02 g10 g11 g12 g20 g21 g22; obtain ⟨⟨g00, g01, g02⟩, ⟨g10, g11, g12⟩, ⟨g20, g21, g22⟩⟩ := HKP.out _ hbb; have HB : Hid _ := hbb; clear hbb hb9)
                    | (go_at_call 22; (with_reducible refine Calls.mono (HC9.out.1 _ HB.out) ?_); rintro e w9 ⟨rfl, hb9⟩; have hbb := HB.out.trans (hb9.mono HB.out.size); clear HB g00 g01 g02 g10 g11 g12 g20 g21 g22; obtain ⟨⟨g00, g01, g02⟩, ⟨g10, g11, g12⟩, ⟨g20, g21, g22⟩⟩ := HKP.out _ hbb; have HB : Hid _ := hbb; clear hbb hb9))
                  all_goals
                    go_wp2_with fail
                    go_ret
                    exact ⟨by show Ending.returned (.bool (decide (m.2.2 = 0))) = _; rw [decide_eq_true HFE.out.1], H3.out.2.2.2.trans (HB.out.mono H3.out.2.2.2.size)⟩
end Go.Proofs.Ytakemkhgaicckaa
