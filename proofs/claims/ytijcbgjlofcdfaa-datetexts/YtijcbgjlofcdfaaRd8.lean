/- The program's closures: zoneInto. -/
import Derived.Test.YtijcbgjlofcdfaaRd7
namespace Go.Proofs.Ytijcbgjlofcdfaa
open Go.RowKit
set_option linter.unusedVariables false

abbrev T2 := Int × Int
structure St2 (H : Nat) (x : T2) (W : World) : Prop where
  a : W.heap[H]? = some (.cells #[.int .i64 x.1] 3 (0, 0))
  b : W.heap[H + 1]? = some (.cells #[.int .i64 x.2] 3 (0, 0))
  a0 : -1000000000 < x.1 ∧ x.1 < 1000000000
  b0 : -1000000000 < x.2 ∧ x.2 < 1000000000
theorem St2.s1 (H : Nat) : CellSt (St2 H) H 0 (fun x n => (n, x.2)) := by
  intro x W h
  refine ⟨_, _, _, h.a, rfl, fun n W' n0 n1 hx hf => ⟨hx, hf.at h.b (by omega), ⟨n0, n1⟩, h.b0⟩⟩
theorem St2.s2 (H : Nat) : CellSt (St2 H) (H + 1) 0 (fun x n => (x.1, n)) := by
  intro x W h
  refine ⟨_, _, _, h.b, rfl, fun n W' n0 n1 hx hf => ⟨hf.at h.a (by omega), hx, h.a0, ⟨n0, n1⟩⟩⟩
def g3 : List (Gd T2) := [fun a l => (inB 0 14 l).map fun x => ((x.1, a.2), x.2), gMk 58, fun a l => (inB 0 59 l).map fun x => ((a.1, x.1), x.2)]
/-- zoneInto. -/
def zR (l : List Int) : Option Int := (runG g3 (0, 0) l.tail).bind fun x => if x.2 = [] ∧ 60 * x.1.1 + x.1.2 ≤ 840 then some (60 * x.1.1 + x.1.2) else none
def gZn (a : Mo) (l : List Int) : Option Mo :=
  if l = [] then some a else if l = [90] then some { a with hz := true }
  else (zR l).bind fun z => if l.head? = some 45 then some { a with hz := true, z := -z } else if l.head? = some 43 then some { a with hz := true, z := z } else none
def ZnP (s : ByteArray) (M : Nat) (W : World) (a : Mo) (e : Ending) (W' : World) : Prop :=
  ∃ (a' : Mo) (b : Bool), e = .returned (.tuple #[.string ⟨#[]⟩, .bool b]) ∧ W'.heap[M]? = some (.cells (moC a') 24 (0, 0)) ∧ Fro (fun k => k = M) W W' ∧ (∃ h z, a' = { a with hz := h, z := z }) ∧ (match gZn a (bl s) with | some x => b = true ∧ a' = x | none => b = false)
theorem moC_hz (a : Mo) (h : Bool) : (moC a).setIfInBounds 6 (.bool h) = moC { a with hz := h } := rfl
theorem moC_z (a : Mo) (z : Int) : (moC a).setIfInBounds 7 (.int .i64 z) = moC { a with z := z } := rfl
theorem tl_ne {s : ByteArray} {c : UInt8} (h : bl s ≠ [(c.toNat : Int)]) : (s.toList == [c]) = false := by
  have : ¬ s.toList = [c] := fun q => h (by
    unfold bl
    rw [← Lib.toList_data, q]
    rfl)
  simpa using this
theorem tl_eq1 {s : ByteArray} {c : UInt8} (h : bl s = [(c.toNat : Int)]) : (s.toList == [c]) = true := by
  have h1 : s = ⟨#[c]⟩ := bl_inj (by rw [h]; rfl)
  rw [h1]
  have : (⟨#[c]⟩ : ByteArray).toList = [c] := Lib.toList_data _
  rw [this]
  simp
theorem St2.below {H : Nat} {x : T2} {W U : World} (h : St2 H x W) (hb : Below W.heap.size W U) : St2 H x U := ⟨(hb.block _ (lt_of h.a)).trans h.a, (hb.block _ (lt_of h.b)).trans h.b, h.a0, h.b0⟩
/-- The zone's own whole. -/
theorem zone_w {V0 w1 w2 w3 : World} {p1 p2 p3 p4 p5 p6 p7 H : Nat} (h1 : TwB V0 w1 p1 p2 p3 (some ⟨H, 0, none⟩) 0 14) (h2 : MkB w1 w2 p4 (.string ⟨#[58]⟩) 9) (h3 : TwB w2 w3 p5 p6 p7 (some ⟨H + 1, 0, none⟩) 0 59) (hst : St2 H (0, 0) V0) (hH : H + 2 ≤ V0.heap.size) (r : ByteArray) (hr : r.size ≤ maxLen) :
    Calls Try.prog 28 #[.string r, .slice (some ⟨w3.heap.size, 0, none⟩) 3 3] (w3.alloc (.cells #[fnV (77, #[pt p1, pt p2, pt p3]), fnV (74, #[pt p4]), fnV (77, #[pt p5, pt p6, pt p7])] 69)) fun e w6 => ∃ (b : Bool) (hh mm : Int), e = .returned (.bool b) ∧ (Fro (fun k => k = H ∨ k = H + 1) V0 w6 ∧ St2 H (hh, mm) w6 ∧ (b = true → runG g3 (0, 0) (bl r) = some ((hh, mm), [])) ∧ (b = false → ∀ x, runG g3 (0, 0) (bl r) = some x → x.2 ≠ [])) := by
  obtain ⟨U, hU⟩ : ∃ U, (w3.alloc (.cells #[fnV (77, #[pt p1, pt p2, pt p3]), fnV (74, #[pt p4]), fnV (77, #[pt p5, pt p6, pt p7])] 69)) = U := ⟨_, rfl⟩
  rw [hU]
  have u3 : Below w3.heap.size w3 U := by rw [← hU]; exact (Below.refl _ _).alloc (Nat.le_refl _) _
  have hUx : U.heap[w3.heap.size]? = some (.cells #[fnV (77, #[pt p1, pt p2, pt p3]), fnV (74, #[pt p4]), fnV (77, #[pt p5, pt p6, pt p7])] 69 (0, 0)) := by rw [← hU]; exact nw_heap _ _
  clear hU
  have u2 := bl_step h3.bl u3
  have u1 := bl_step h2.bl u2
  have u0 := bl_step h1.bl u1
  have s1 := h1.bl.size
  have s2 := h2.bl.size
  have s3 := h3.bl.size
  have hfc : FCs U (fun k => k = H ∨ k = H + 1) (St2 H) [(77, #[pt p1, pt p2, pt p3]), (74, #[pt p4]), (77, #[pt p5, pt p6, pt p7])] g3 :=
    .cons (h1.fc u1 (by omega) (by simp) _ (St2.s1 H)) (.cons (h2.fc u2 (by omega)) (.cons (h3.fc u3 (by omega) (by simp) _ (St2.s2 H)) .nil))
  refine Calls.mono (whole_p hfc w3.heap.size hUx (by omega) (by simp) U (0, 0) r (Fro.refl _ _) (hst.below u0) hr) ?_
  rintro e w6 ⟨b, ⟨hh, mm⟩, rfl, hfr, hst6, hT, hF⟩
  exact ⟨b, hh, mm, rfl, (Fro.below u0).trans' hfr (fun i hi q => q), hst6, hT, hF⟩
set_option maxHeartbeats 1000000 in
theorem zone_c (s : ByteArray) (b1 M : Nat) (W : World) (a : Mo) (h1 : W.heap[b1]? = some (.cells #[.pointer (some ⟨M, 0, none⟩)] 56 (0, 0))) (hM : W.heap[M]? = some (.cells (moC a) 24 (0, 0))) (n1 : M ≠ b1) (hs : s.size ≤ maxLen) :
    Calls Try.prog 81 #[.string s, pt b1] W (ZnP s M W a) := by
  by_cases hs0 : s.size = 0
  · have hq := tl_ee hs0
    have hg : gZn a (bl s) = some a := by unfold gZn; rw [if_pos (bl_nil hs0)]
    have HH : Hid _ := And.intro hM hg
    clear hM hg h1 hs0
    go_enter Try.func81, Try.ntmps81
    go_wp2_with fail
    go_ret2
    refine ⟨a, true, rfl, HH.out.1, Fro.refl _ _, ⟨a.hz, a.z, rfl⟩, ?_⟩
    rw [HH.out.2]
    exact ⟨rfl, rfl⟩
  have hsp : 0 < s.size := by omega
  have hq0 := tl_nn hsp
  have hne : ¬ bl s = [] := fun q => by have := bl_len s; rw [q] at this; simp at this; omega
  obtain ⟨⟨k0, k1, k2, k3, k4, k5, k6, k7⟩, f0, f1, f2, f3, f4, f5, f6, f7⟩ := blk8 hM
  have c1 := cl1 h1
  have hM1 := bset (i := 6) hM (.bool true)
  rw [moC_hz] at hM1
  have fr1 : Fro (fun k => k = M) W (W.setCell ⟨M, 6, none⟩ (.bool true)) := fro_set W M 6 _
  have h11 : (W.setCell ⟨M, 6, none⟩ (.bool true)).heap[b1]? = some (.cells #[.pointer (some ⟨M, 0, none⟩)] 56 (0, 0)) := (Below.heap_setCell _ _ _ _ (by simpa using n1.symm)).trans h1
  by_cases hz : bl s = [90]
  · have hqz : (s.toList == [90]) = true := tl_eq1 (c := 90) hz
    have hg : gZn a (bl s) = some { a with hz := true } := by unfold gZn; rw [if_neg hne, if_pos hz]
    have HH : Hid _ := And.intro hM1 (And.intro fr1 hg)
    clear hM1 fr1 hg hM h1 hne hz h11
    go_enter Try.func81, Try.ntmps81
    go_wp2_with fail
    go_ret2
    refine ⟨{ a with hz := true }, true, rfl, HH.out.1, HH.out.2.1, ⟨true, a.z, rfl⟩, ?_⟩
    rw [HH.out.2.2]
    exact ⟨rfl, rfl⟩
  have hqz : (s.toList == [90]) = false := tl_ne (c := 90) hz
  have hg : gZn a (bl s) = (zR (bl s)).bind fun z => if (bl s).head? = some 45 then some { a with hz := true, z := -z } else if (bl s).head? = some 43 then some { a with hz := true, z := z } else none := by unfold gZn; rw [if_neg hne, if_neg hz]
  have hhd := head_get s hsp
  rw [hhd] at hg
  have HG : Hid _ := hg
  have HM1 : Hid _ := And.intro hM1 (And.intro fr1 h11)
  have hl1 : (1 : Int) ≤ (s.size : Int) := by omega
  clear hM1 fr1 hg hM h1 hne hz h11 hhd
  have hmx := hs
  unfold maxLen at hs
  go_enter Try.func81, Try.ntmps81
  go_wp2_with fail
  have hzW : (W.setCell ⟨M, 6, none⟩ (.bool true)).heap.size = W.heap.size := by simp [World.setCell]
  have hbx := box2 (W.setCell ⟨M, 6, none⟩ (.bool true)) (.cells #[.int .i64 0] 3) (.cells #[.int .i64 0] 3)
  obtain ⟨U0, hU0⟩ : ∃ U0, ((W.setCell ⟨M, 6, none⟩ (.bool true)).alloc (.cells #[.int .i64 0] 3)).alloc (.cells #[.int .i64 0] 3) = U0 := ⟨_, rfl⟩
  have hsU : U0.heap.size = W.heap.size + 2 := by rw [← hU0]; simp
  rw [hU0, hzW] at hbx
  rw [hU0]
  obtain ⟨bx1, bx2, bx3⟩ := hbx
  have hst0 : St2 W.heap.size (0, 0) U0.drew := ⟨bx1, bx2, by simp, by simp⟩
  have hsD : W.heap.size + 2 ≤ U0.drew.heap.size := by show W.heap.size + 2 ≤ U0.heap.size; omega
  have hrs : (s.extract 1 s.size).size ≤ maxLen := by rw [ByteArray.size_extract]; omega
  have xM : U0.drew.heap[M]? = some (.cells (moC { a with hz := true }) 24 (0, 0)) := (bx3.block _ (by rw [← hzW]; exact lt_of HM1.out.1)).trans HM1.out.1
  have xb : U0.drew.heap[b1]? = some (.cells #[.pointer (some ⟨M, 0, none⟩)] 56 (0, 0)) := (bx3.block _ (by rw [← hzW]; exact lt_of HM1.out.2.2)).trans HM1.out.2.2
  have hMlt : M < W.heap.size := by rw [← hzW]; exact lt_of HM1.out.1
  have hblt : b1 < W.heap.size := by rw [← hzW]; exact lt_of HM1.out.2.2
  have frU : Fro (fun k => k = M) W U0.drew := HM1.out.2.1.trans' (Fro.below (O := fun _ => False) (show Below (W.setCell ⟨M, 6, none⟩ (.bool true)).heap.size (W.setCell ⟨M, 6, none⟩ (.bool true)) U0.drew by rw [hzW]; exact bdrewN bx3 1)) (fun _ _ q => q.elim)
  have HZ : Hid _ := And.intro hst0 (And.intro hsD (And.intro hrs (And.intro xM (And.intro xb (And.intro frU (And.intro hMlt hblt))))))
  clear hU0 hsU hzW bx1 bx2 bx3 hst0 hsD hrs xM xb frU hMlt hblt HM1 k0 k1 k2 k3 k4 k5 k6 k7 f0 f1 f2 f3 f4 f5 f6 f7 c1
  go_region_held3 (fun _ => True) (trivial) (first
    | (go_at_call 60; (with_reducible refine Calls.mono (two_m (some ⟨W.heap.size, 0, none⟩) 0 14 _) ?_); rintro e w1 ⟨p1, p2, p3, rfl, h1⟩; have H1 : Hid _ := And.intro h1 trivial; clear h1)
    | (go_at_call 58; (with_reducible refine Calls.mono (mark_m _ _) ?_); rintro e w2 ⟨p4, rfl, h2⟩; have H2 : Hid _ := And.intro h2 trivial; clear h2)
    | (go_at_call 60; (with_reducible refine Calls.mono (two_m (some ⟨W.heap.size + 1, 0, none⟩) 0 59 _) ?_); rintro e w3 ⟨p5, p6, p7, rfl, h3⟩; have H3 : Hid _ := And.intro h3 trivial; clear h3)
    | (go_at_call 28; (refine Calls.mono (zone_w H1.out.1 H2.out.1 H3.out.1 HZ.out.1 HZ.out.2.1 _ HZ.out.2.2.1) ?_); rintro e w6 ⟨b, hh, mm, rfl, h8⟩; have H8 : Hid _ := And.intro h8 trivial; clear h8)
    | fail)
  obtain ⟨hfr, hst, hT, hF⟩ := H8.out.1
  have fr6 : Fro (fun k => k = M) W w6 := HZ.out.2.2.2.2.2.1.trans' hfr (fun i hi q => by omega)
  have x6 : w6.heap[M]? = some (.cells (moC { a with hz := true }) 24 (0, 0)) := hfr.at HZ.out.2.2.2.1 (by have := HZ.out.2.2.2.2.2.2.1; omega)
  have y6 : w6.heap[b1]? = some (.cells #[.pointer (some ⟨M, 0, none⟩)] 56 (0, 0)) := hfr.at HZ.out.2.2.2.2.1 (by have := HZ.out.2.2.2.2.2.2.2; omega)
  obtain ⟨⟨a1, a2⟩, a3, a4⟩ := And.intro hst.a0 hst.b0
  dsimp only at a1 a2 a3 a4
  have ca := cl1 hst.a
  have cb := cl1 hst.b
  have c1 := cl1 y6
  obtain ⟨⟨k0, k1, k2, k3, k4, k5, k6, k7⟩, f0, f1, f2, f3, f4, f5, f6, f7⟩ := blk8 x6
  obtain ⟨N, hN⟩ : ∃ N, 60 * hh + mm = N := ⟨_, rfl⟩
  have hzr : zR (bl s) = if b = true ∧ N ≤ 840 then some N else none := by
    unfold zR
    rw [bl_ext, List.drop_one] at hT hF
    cases b with
    | false =>
      rw [if_neg (by simp)]
      cases hr : runG g3 (0, 0) (bl s).tail with
      | none => rfl
      | some x =>
        rw [Option.bind_some, if_neg (fun q => hF rfl x hr q.1)]
    | true =>
      rw [hT rfl, Option.bind_some]
      dsimp only
      rw [hN]
      simp
  have x7 := bset (i := 7) x6 (.int .i64 N)
  rw [moC_z] at x7
  have y7 : (w6.setCell ⟨M, 7, none⟩ (.int .i64 N)).heap[b1]? = some (.cells #[.pointer (some ⟨M, 0, none⟩)] 56 (0, 0)) := (Below.heap_setCell _ _ _ _ (by simpa using n1.symm)).trans y6
  have fr7 : Fro (fun k => k = M) W (w6.setCell ⟨M, 7, none⟩ (.int .i64 N)) := fr6.set (X := M) (i := 7) (.inl rfl) _
  have HE : Hid _ := And.intro x7 (And.intro y7 (And.intro fr7 hzr))
  have hNb : -100000000000 < N ∧ N < 100000000000 := by omega
  obtain ⟨hNb0, hNb1⟩ := hNb
  have HN : Hid _ := hN
  clear x7 y7 fr7 hzr x6 y6 fr6 hfr hst hT hF H1 H2 H3 H8 HZ
  have hd0 := head_get s hsp
  clear hd0
  have hzr0 : b = false → zR (bl s) = none := fun q => by rw [HE.out.2.2.2, if_neg (by rw [q]; simp)]
  have hzr1 : b = true → 840 < N → zR (bl s) = none := fun q p => by rw [HE.out.2.2.2, if_neg (by omega)]
  have hzr2 : b = true → ¬ 840 < N → zR (bl s) = some N := fun q p => by rw [HE.out.2.2.2, if_pos ⟨q, by omega⟩]
  cases b
  · have HR : Hid _ := hzr0 rfl
    clear hzr0 hzr1 hzr2
    go_wp2_with fail
    go_ret2
    refine ⟨{ a with hz := true, z := N }, false, rfl, HE.out.1, HE.out.2.2.1, ⟨true, N, rfl⟩, ?_⟩
    rw [HG.out, HR.out]
    rfl
  · by_cases h840 : 840 < N
    · have HR : Hid _ := hzr1 rfl h840
      clear hzr0 hzr1 hzr2
      go_wp2_with fail
      go_ret2
      refine ⟨{ a with hz := true, z := N }, false, rfl, HE.out.1, HE.out.2.2.1, ⟨true, N, rfl⟩, ?_⟩
      rw [HG.out, HR.out]
      rfl
    · have HR : Hid _ := hzr2 rfl h840
      clear hzr0 hzr1 hzr2
      by_cases h45 : ((s[0]'hsp).toNat : Int) = 45
      · have hx8 := bset (i := 7) HE.out.1 (.int .i64 (-N))
        rw [moC_z] at hx8
        have f8 := HE.out.2.2.1.set (X := M) (i := 7) (.inl rfl) (.int .i64 (-N))
        have g1 := cl1 HE.out.2.1
        obtain ⟨⟨_, _, _, _, _, _, _, g7⟩, _, _, _, _, _, _, _, t7⟩ := blk8 HE.out.1
        have HX : Hid _ := And.intro hx8 f8
        clear hx8 f8
        go_wp2_with fail
        clear ca cb c1 k0 k1 k2 k3 k4 k5 k6 k7 f0 f1 f2 f3 f4 f5 f6 f7
        generalize (w6.setCell ⟨M, 7, none⟩ (.int .i64 N)) = W7 at *
        go_region
        all_goals
          go_wp2_with fail
          go_ret2
          refine ⟨{ a with hz := true, z := -N }, true, rfl, HX.out.1, HX.out.2.drewN 1, ⟨true, -N, rfl⟩, ?_⟩
          rw [HG.out, HR.out, Option.bind_some, if_pos (by rw [h45])]
          exact ⟨rfl, rfl⟩
      · by_cases h43 : ((s[0]'hsp).toNat : Int) = 43
        · have h45' : (((s[0]'hsp).toNat : Int) == 45) = false := by simpa using h45
          go_wp2_with fail
          go_ret2
          refine ⟨{ a with hz := true, z := N }, true, rfl, HE.out.1, HE.out.2.2.1, ⟨true, N, rfl⟩, ?_⟩
          rw [HG.out, HR.out, Option.bind_some, if_neg (by simpa using h45), if_pos (by rw [h43])]
          exact ⟨rfl, rfl⟩
        · have h45' : (((s[0]'hsp).toNat : Int) == 45) = false := by simpa using h45
          have h43' : (((s[0]'hsp).toNat : Int) == 43) = false := by simpa using h43
          go_wp2_with fail
          go_ret2
          refine ⟨{ a with hz := true, z := N }, false, rfl, HE.out.1, HE.out.2.2.1, ⟨true, N, rfl⟩, ?_⟩
          rw [HG.out, HR.out, Option.bind_some, if_neg (by simpa using h45), if_neg (by simpa using h43)]
end Go.Proofs.Ytijcbgjlofcdfaa
