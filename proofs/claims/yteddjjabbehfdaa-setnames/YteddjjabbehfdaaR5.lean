/- The second telling: Of. -/
import Derived.Test.YteddjjabbehfdaaR4
namespace Go.Proofs.Yteddjjabbehfdaa
open Go.RowKit
set_option linter.unusedVariables false

theorem put_len : ∀ (l : List Rg) (d : Bool) (r : Rg), (putG d r l).length ≤ l.length + 1 ∧ (d = true → (putG d r l).length ≤ l.length)
  | [], d, r => by rw [put_nil]; cases d <;> simp
  | x :: l, d, r => by
    rw [put_cons]
    split
    · have := put_len l d r
      simp only [List.length_cons]
      exact ⟨by omega, fun q => by have := this.2 q; omega⟩
    · split
      · have h := put_len l true r
        have h2 := h.2 rfl
        cases d
        · rw [if_neg (by simp)]
          simp only [List.length_cons]
          exact ⟨by omega, fun q => by simp at q⟩
        · rw [if_pos rfl]
          simp only [List.length_cons]
          exact ⟨by omega, fun _ => by omega⟩
      · have h := put_len l d (min x.1 r.1, max x.2 r.2)
        simp only [List.length_cons]
        exact ⟨by omega, fun q => by have := h.2 q; omega⟩
theorem ofR_snoc (l : List Rg) (r : Rg) : ofR (l ++ [r]) = if (cl r).1 ≤ (cl r).2 then putG false (cl r) (ofR l) else ofR l := by
  unfold ofR
  rw [cut_snoc]
  split
  · rw [List.foldl_append]; rfl
  · rfl
theorem ofR_len (l : List Rg) : (ofR l).length ≤ l.length := by
  have key : ∀ (l s : List Rg), (l.foldl (fun s r => putG false r s) s).length ≤ s.length + l.length := by
    intro l
    induction l with
    | nil => intro s; simp
    | cons r l ih =>
      intro s
      have := ih (putG false r s)
      have := (put_len s false r).1
      simp only [List.foldl_cons, List.length_cons]
      omega
  have h1 := key (cut l) []
  have h2 := cut_len l
  unfold ofR
  simp at h1
  omega
set_option maxHeartbeats 8000000 in
theorem rof_r (v : Value) (l : List Rg) (w : World) (h : Sl .i64 w v l) (hn : l.length ≤ 100000) : Calls Try.prog 10 #[v] w fun e w' => RsQ (ofR l) w e w' := by
  obtain ⟨la, lc, rfl, hcap⟩ := h.len
  have hx := nw_heap w (.cells #[.slice none 0 0] 28)
  have hbW : Below w.heap.size w (w.alloc (.cells #[.slice none 0 0] 28)) := (Below.refl _ _).alloc (Nat.le_refl _) _
  go_enter Try.func10, Try.ntmps10
  go_upto_region 1 with fail
  obtain ⟨W, hW⟩ : ∃ W, w.alloc (.cells #[.slice none 0 0] 28) = W := ⟨_, rfl⟩
  rw [hW] at hx hbW ⊢
  have HX : Hid _ := And.intro (h.below hbW) (And.intro hx hbW)
  clear h hx hbW hW
  go_wp2_with fail
  go_loopg [3, 4] l.length (fun g v3 v4 wr => ∃ (k : Nat) (a : Option Addr) (c : Nat), k + g = l.length ∧ v4 = .int .i64 (k : Int) ∧ v3 = .slice a (ofR (l.take k)).length c ∧ Own .i64 58 wr W.heap.size v3 (ofR (l.take k)) ∧ Below W.heap.size W wr)
  case atStart => exact ⟨0, none, 0, by omega, rfl, rfl, Own.nil _ _ _ _, Below.refl _ _⟩
  case round =>
    obtain ⟨k, sa, sc, hk, rfl, rfl, hown, hb⟩ := hrel
    have HB : Hid _ := And.intro hown hb
    clear hown hb
    by_cases hlt : k < l.length
    · obtain ⟨g, rfl⟩ : ∃ g, gk = g + 1 := ⟨gk - 1, by omega⟩
      obtain ⟨a', c', e, _, hx⟩ := HX.out.1
      simp only [Value.slice.injEq] at e
      obtain ⟨rfl, hdd, rfl⟩ := e
      clear hdd
      rcases hx with hx | ⟨b, off, rfl, hbl, hx⟩
      · rw [hx] at hlt; simp at hlt
      obtain ⟨q0, q1⟩ := hx k hlt
      have e0 := (HB.out.2.cell (p := ⟨b, off + k * 2, none⟩) hbl).trans q0
      have e1 := (HB.out.2.cell (p := ⟨b, off + k * 2 + 1, none⟩) hbl).trans q1
      have hcs := ofR_snoc (l.take k) l[k]
      rw [← take_snoc hlt] at hcs
      have hcn := (ofR_ok (l.take k)).cn
      have hol := ofR_len (l.take k)
      have htl : (l.take k).length ≤ k := List.length_take_le _ _
      generalize l[k] = r at *
      obtain ⟨r0, r1⟩ := r
      have hcs' : ofR (l.take (k + 1)) = if max r0 0 ≤ min r1 1114111 then putG false (max r0 0, min r1 1114111) (ofR (l.take k)) else ofR (l.take k) := hcs
      dsimp only at *
      clear q0 q1 hx hcs
      obtain ⟨s, hs⟩ : ∃ s, ofR (l.take k) = s := ⟨_, rfl⟩
      rw [hs] at HB hcs' hcn hol ⊢
      have hsl : s.length ≤ 100000 := by omega
      have HS : Hid _ := And.intro hcs' hcn
      clear hcs' hcn hs hol htl
      have hrel : ∀ (U : World) (v : Value), PuQ (ofR (l.take (k + 1))) U (.returned v) wr → True := fun _ _ _ => trivial
      clear hrel
      have hput : ∀ R0 R1, R0 = max r0 0 → R1 = min r1 1114111 → R0 ≤ R1 → Calls Try.prog 40 #[.slice sa s.length sc, .agg #[.int .i64 R0, .int .i64 R1]] (wr.alloc (.cells #[.int .i64 R0, .int .i64 R1] 58)) fun e w' => ∃ a c, e = .returned (.slice a (ofR (l.take (k + 1))).length c) ∧ Own .i64 58 w' W.heap.size (.slice a (ofR (l.take (k + 1))).length c) (ofR (l.take (k + 1))) ∧ Below W.heap.size W w' := fun R0 R1 h0 h1 hle => by
        have hbA : Below wr.heap.size wr (wr.alloc (.cells #[.int .i64 R0, .int .i64 R1] 58)) := (Below.refl _ _).alloc (Nat.le_refl _) _
        have hM : MX = 1114111 := rfl
        have q := put_r (.slice sa s.length sc) s (R0, R1) _ (HB.out.1.below hbA).sl HS.out.2 (by simp only []; omega) hsl
        have he := HS.out.1
        rw [← h0, ← h1, if_pos hle] at he
        rw [he]
        refine Calls.mono q ?_
        rintro e w' ⟨a, c, rfl, ho, hb⟩
        have hbb := HB.out.2.trans (hbA.mono HB.out.2.size)
        exact ⟨a, c, rfl, ho.mono hbb.size, hbb.trans (hb.mono hbb.size)⟩
      have hskip : ¬ (max r0 0 ≤ min r1 1114111) → ∀ o, ∃ (k' : Nat) (a : Option Addr) (c : Nat), k' + g = l.length ∧ Value.int .i64 ((k : Int) + 1) = .int .i64 (k' : Int) ∧ Value.slice sa s.length sc = .slice a (ofR (l.take k')).length c ∧ Own .i64 58 (wr.alloc o) W.heap.size (.slice sa s.length sc) (ofR (l.take k')) ∧ Below W.heap.size W (wr.alloc o) := fun hle o => by
        have hbA : Below wr.heap.size wr (wr.alloc o) := (Below.refl _ _).alloc (Nat.le_refl _) _
        have he := HS.out.1
        rw [if_neg hle] at he
        exact ⟨k + 1, sa, sc, by omega, by simp, by rw [he], by rw [he]; exact HB.out.1.below hbA, HB.out.2.trans (hbA.mono HB.out.2.size)⟩
      have HP : Hid _ := And.intro hput hskip
      clear hput hskip
      obtain ⟨SL, hSL⟩ : ∃ SL, s.length = SL := ⟨_, rfl⟩
      rw [hSL] at HP hsl ⊢
      clear hSL HB HS
      by_cases t0 : r0 < 0
      · by_cases t1 : 1114111 < r1
        · go_wp2_with fail
          refine Calls.mono (HP.out.1 0 1114111 (by omega) (by omega) (by omega)) ?_
          rintro e w5 ⟨a5, c5, rfl, ho5, hb5⟩
          have H5 : Hid _ := And.intro ho5 hb5
          clear ho5 hb5
          go_wp2_with fail
          go_roundg g
          case measure => omega
          case rel => exact ⟨k + 1, a5, c5, by omega, by simp, rfl, H5.out.1, H5.out.2⟩
        · by_cases t2 : 0 ≤ r1
          · go_wp2_with fail
            refine Calls.mono (HP.out.1 0 r1 (by omega) (by omega) (by omega)) ?_
            rintro e w5 ⟨a5, c5, rfl, ho5, hb5⟩
            have H5 : Hid _ := And.intro ho5 hb5
            clear ho5 hb5
            go_wp2_with fail
            go_roundg g
            case measure => omega
            case rel => exact ⟨k + 1, a5, c5, by omega, by simp, rfl, H5.out.1, H5.out.2⟩
          · go_wp2_with fail
            go_roundg g
            case measure => omega
            case rel => exact HP.out.2 (by omega) _
      · by_cases t1 : 1114111 < r1
        · by_cases t2 : r0 ≤ 1114111
          · go_wp2_with fail
            refine Calls.mono (HP.out.1 r0 1114111 (by omega) (by omega) (by omega)) ?_
            rintro e w5 ⟨a5, c5, rfl, ho5, hb5⟩
            have H5 : Hid _ := And.intro ho5 hb5
            clear ho5 hb5
            go_wp2_with fail
            go_roundg g
            case measure => omega
            case rel => exact ⟨k + 1, a5, c5, by omega, by simp, rfl, H5.out.1, H5.out.2⟩
          · go_wp2_with fail
            go_roundg g
            case measure => omega
            case rel => exact HP.out.2 (by omega) _
        · by_cases t2 : r0 ≤ r1
          · go_wp2_with fail
            refine Calls.mono (HP.out.1 r0 r1 (by omega) (by omega) (by omega)) ?_
            rintro e w5 ⟨a5, c5, rfl, ho5, hb5⟩
            have H5 : Hid _ := And.intro ho5 hb5
            clear ho5 hb5
            go_wp2_with fail
            go_roundg g
            case measure => omega
            case rel => exact ⟨k + 1, a5, c5, by omega, by simp, rfl, H5.out.1, H5.out.2⟩
          · go_wp2_with fail
            go_roundg g
            case measure => omega
            case rel => exact HP.out.2 (by omega) _
    · have hkl : k = l.length := by omega
      subst hkl
      rw [List.take_length] at HB ⊢
      have y2 := (HB.out.2.block _ (lt_of HX.out.2.1)).trans HX.out.2.1
      obtain ⟨c2, c3⟩ := blk1 y2
      have HY : Hid _ := y2
      clear y2
      go_wp2_with fail
      have hx2 := bset (i := 0) HY.out (.slice sa (ofR l).length sc)
      simp only [List.setIfInBounds_toArray, List.set_cons_zero] at hx2
      obtain ⟨k0, _⟩ := blk1 hx2
      have hbb := HX.out.2.2.trans (HB.out.2.mono HX.out.2.2.size)
      refine bodyPost_ret (v := sV (.slice sa (ofR l).length sc)) (by simp [results, Try.results10, go_sem, k0]) rfl ⟨_, _, rfl, ?_, hbb.setCell (p := ⟨w.heap.size, 0, none⟩) (Nat.le_refl _) _⟩
      exact own_set (HB.out.1.mono HX.out.2.2.size) HY.out (by decide) 0 _
end Go.Proofs.Yteddjjabbehfdaa
