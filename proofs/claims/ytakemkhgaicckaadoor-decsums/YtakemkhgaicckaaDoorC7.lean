/- The second telling: Int. -/
import Derived.Test.YtakemkhgaicckaaDoorC3
namespace Go.Proofs.YtakemkhgaicckaaDoor
open Go.RowKit
set_option linter.unusedVariables false

set_option maxRecDepth 100000 in
set_option maxHeartbeats 3200000 in
theorem int_r (n : Int) (w : World) (h0 : -9223372036854775808 ≤ n) (h1 : n ≤ 9223372036854775807) : Calls Tryd.prog 7 #[.int .i64 n] w fun e w' => ∃ rv, e = .returned (nmV (inS n).1 rv (inS n).2.2) ∧ NewN w (inS n) rv w' := by
  obtain ⟨i5, z5, hi5, hz0, hzc, hz1, hz3⟩ := info5p
  have hb0 : Below w.heap.size w (w.alloc zD) := (Below.refl _ _).alloc (Nat.le_refl _) _
  have hR0 := nw_heap w zD
  have hU : n.natAbs < 10 ^ 20 := by omega
  have hin : ∀ b : Bool, b = decide (n < 0) → inS n = canS b (itS 20 n.natAbs []) 0 := fun b hb => by rw [hb]; rfl
  generalize inS n = C at *
  have HH : Hid _ := And.intro hb0 (And.intro hR0 (And.intro hU hin))
  clear hb0 hR0 hU hin
  go_enter Tryd.func7, Tryd.ntmps7
  by_cases hn : n < 0
  case' pos =>
    have hw : IntKind.u64.wrap (-IntKind.u64.wrap n) = (n.natAbs : Int) := by
      simp [IntKind.wrap, IntKind.bits, IntKind.signed]
      omega
    go_wp2_with fail
    have HC : Hid (C = canS true (itS 20 n.natAbs []) 0) := HH.out.2.2.2 true (by simp [hn])
  case' neg =>
    go_wp2_with fail
    have hw : (n : Int) = (n.natAbs : Int) := by omega
    have hnd : decide (n < 0) = false := by simp; omega
    have HC : Hid (C = canS false (itS 20 n.natAbs []) 0) := HH.out.2.2.2 false (by simp; omega)
  all_goals
    have HW : Hid _ := hw
    clear hw
    go_loopg [3, 4] 20 (fun m v3 v4 wr => ∃ (u : Nat) (b : List Int) (a : Option Addr) (c : Nat), v3 = .int .u64 u ∧ v4 = .slice a b.length c ∧ Hid (u < 10 ^ m) ∧ Hid (b ≠ [] ∨ m = 20) ∧ u < 18446744073709551616 ∧ Hid (b.length + m = 20) ∧ Below w.heap.size w wr ∧ BtR wr (.slice a b.length c) b ∧ Hid (wr.heap[w.heap.size]? = some (.cells #[.bool false, .slice none 0 0, .int .i64 0] 28 (0, 0))) ∧ Hid (Dg b) ∧ Hid (itS 20 n.natAbs [] = itS m u b) ∧ Hid (∀ k, (Value.slice a b.length c).ownBlock = some k → w.heap.size < k))
    case atStart =>
      refine ⟨n.natAbs, [], none, 0, ?_, rfl, HH.out.2.2.1, .inr rfl, by omega, by show _ = _; simp, HH.out.1, ⟨none, 0, rfl, by simp, Nat.zero_le _, fun d hd => by simp at hd, .inl rfl⟩, HH.out.2.1, fun d hd => by simp at hd, rfl, fun k hk => by simp [Value.ownBlock] at hk⟩
      first | rfl | exact congrArg (Value.int .u64) HW.out
    case round =>
      obtain ⟨u, b, a, c, rfl, rfl, hu, hbn, hu2, hbl, hbw, hbt, hz, hdg, hit, hob⟩ := hrel
      obtain ⟨_, hcl, hcm⟩ := hbt.lim
      unfold maxLen at hcm
      have hblen : b.length ≤ 20 := by have := hbl.out; omega
      have HB : Hid _ := And.intro hbt hbw
      clear hbt hbw
      by_cases hgo : 0 < u ∨ b = []
      · obtain ⟨k, rfl⟩ : ∃ k, gk = k + 1 := by
          rcases gk with _ | k
          · exfalso
            have h1 := hu.out
            rcases hbn.out with q | q
            · rcases hgo with q2 | q2
              · simp at h1; omega
              · exact q q2
            · omega
          · exact ⟨k, rfl⟩
        have hm10 : (u : Int) % 10 < 256 := by omega
        have hm0 : 0 ≤ (u : Int) % 10 := by omega
        have hcase : (0 : Int) < u ∨ (¬ (0 : Int) < u ∧ (b.length : Int) = 0) := by
          by_cases h : 0 < u
          · exact .inl (by omega)
          · refine .inr ⟨by omega, ?_⟩
            rcases hgo with q | q
            · omega
            · rw [q]; rfl
        have HG : Hid _ := hgo
        clear hgo
        rcases hcase with hc1 | ⟨hc1, hc2⟩
        · go_wp2_with (first | (at_builtin; refine wpList_app _ rfl (.tmp 21) (.tmp 22) 23 rfl wr.heap.size 5 i5 z5 1 1 Tryd.underlying23 hi5 hz0 hz1 hz3 hzc (by decide) (.slice (some ⟨wr.heap.size, 0, none⟩) 1 1) 1 [.int .u8 ((u : Int) % 10)] rfl (own1 wr 5 (.int .u8 ((u : Int) % 10)) rfl) a b.length c (b.map (Value.int .u8)) rfl (by simp) (src_below HB.out.1.src ((Below.refl _ _).alloc (Nat.le_refl _) _)) (one8 b) (by unfold maxLen; omega) (by omega) (by simp) ?_; intro v4 w4 hown4 hg4 hat4; obtain ⟨a4, c4, rfl⟩ := row_form hown4; have hb4 : Below wr.heap.size wr w4 := ((Below.refl wr.heap.size wr).alloc (Nat.le_refl _) _).grown hg4 (by simp) (fun b hb => by simp [Value.ownBlock] at hb; omega); have H4 : Hid _ := And.intro hown4 hb4; clear hown4 hg4 hat4 hb4))
          go_roundg k
          case measure => omega
          case rel =>
            have e4 : 1 + b.length = (((u : Int) % 10) :: b).length := by simp; omega
            have hd4 : Dg (((u : Int) % 10) :: b) := fun d hd => by
              rcases List.mem_cons.1 hd with q | q
              · omega
              · exact hdg.out d q
            have hbt4 : BtR w4 (.slice a4 (((u : Int) % 10) :: b).length c4) (((u : Int) % 10) :: b) := by
              rw [← e4]
              exact btr_own (l := ((u : Int) % 10) :: b) H4.out.1 e4 (fun d hd => by have := hd4 d hd; omega)
            have hob4 : ∀ k, (Value.slice a4 (((u : Int) % 10) :: b).length c4).ownBlock = some k → w.heap.size < k := fun k hk => by
              rw [← e4] at hk
              have h1 := (row_base H4.out.1 k hk).1
              have h2 := lt_of hz.out
              omega
            have hbw4 := HB.out.2.trans (H4.out.2.mono HB.out.2.size)
            have hz4 := (H4.out.2.block _ (lt_of hz.out)).trans hz.out
            exact ⟨u / 10, ((u : Int) % 10) :: b, a4, c4, by simp, by rw [← e4], by have := hu.out; show _ < _; rw [Nat.pow_succ] at this; omega, .inl (by simp), by omega, by have := hbl.out; show _ = _; simp; omega, hbw4, hbt4, hz4, hd4, by show _ = _; rw [hit.out, itS, if_pos HG.out]; simp, hob4⟩
        · obtain rfl : u = 0 := by omega
          have hc2b : ((b.length : Int) == 0) = true := by simp [hc2]
          have HC2 : Hid _ := hc2
          clear hc2 hc1
          go_wp2_with (first | (at_builtin; refine wpList_app _ rfl (.tmp 21) (.tmp 22) 23 rfl wr.heap.size 5 i5 z5 1 1 Tryd.underlying23 hi5 hz0 hz1 hz3 hzc (by decide) (.slice (some ⟨wr.heap.size, 0, none⟩) 1 1) 1 [.int .u8 (0)] rfl (own1 wr 5 (.int .u8 (0)) rfl) a b.length c (b.map (Value.int .u8)) rfl (by simp) (src_below HB.out.1.src ((Below.refl _ _).alloc (Nat.le_refl _) _)) (one8 b) (by unfold maxLen; omega) (by omega) (by simp) ?_; intro v4 w4 hown4 hg4 hat4; obtain ⟨a4, c4, rfl⟩ := row_form hown4; have hb4 : Below wr.heap.size wr w4 := ((Below.refl wr.heap.size wr).alloc (Nat.le_refl _) _).grown hg4 (by simp) (fun b hb => by simp [Value.ownBlock] at hb; omega); have H4 : Hid _ := And.intro hown4 hb4; clear hown4 hg4 hat4 hb4))
          go_roundg k
          case measure => omega
          case rel =>
            have e4 : 1 + b.length = ((0) :: b).length := by simp; omega
            have hd4 : Dg ((0) :: b) := fun d hd => by
              rcases List.mem_cons.1 hd with q | q
              · omega
              · exact hdg.out d q
            have hbt4 : BtR w4 (.slice a4 ((0) :: b).length c4) ((0) :: b) := by
              rw [← e4]
              exact btr_own (l := (0) :: b) H4.out.1 e4 (fun d hd => by have := hd4 d hd; omega)
            have hob4 : ∀ k, (Value.slice a4 ((0) :: b).length c4).ownBlock = some k → w.heap.size < k := fun k hk => by
              rw [← e4] at hk
              have h1 := (row_base H4.out.1 k hk).1
              have h2 := lt_of hz.out
              omega
            have hbw4 := HB.out.2.trans (H4.out.2.mono HB.out.2.size)
            have hz4 := (H4.out.2.block _ (lt_of hz.out)).trans hz.out
            exact ⟨0, (0) :: b, a4, c4, by simp, by rw [← e4], by have := hu.out; show _ < _; rw [Nat.pow_succ] at this; omega, .inl (by simp), by omega, by have := hbl.out; show _ = _; simp; omega, hbw4, hbt4, hz4, hd4, by show _ = _; rw [hit.out, itS, if_pos HG.out]; simp, hob4⟩
      · have hu0 : u = 0 := by omega
        have hbne : b ≠ [] := fun e => hgo (.inr e)
        subst hu0
        have hitb : itS 20 n.natAbs [] = b := by
          rw [hit.out]
          rcases gk with _ | k
          · rfl
          · rw [itS, if_neg hgo]
        have hb0 : ¬ ((b.length : Int) = 0) := by
          have := List.length_pos_iff.2 hbne
          omega
        have hb0b : ((b.length : Int) == 0) = false := by simpa using hb0
        have hcn := fun ng => canon_r HB.out.1 ng 0 (Nat.zero_le _) (by omega)
        have hCe := HC.out
        rw [hitb] at hCe
        have HE : Hid _ := And.intro hCe hcn
        clear hgo hbne hitb hcn hCe HC
        go_wp2_with fail
        refine Calls.mono (HE.out.2 _) ?_
        rintro e w2 ⟨rv, rfl, hbt2, hrv2, hb2⟩
        have hz2 := (hb2.block _ (lt_of hz.out)).trans hz.out
        have hbw2 := HB.out.2.trans (hb2.mono HB.out.2.size)
        have hzl := lt_of hz.out
        obtain ⟨y0, y1, y2⟩ := bl3 hz2
        obtain ⟨yf0, yf1, yf2⟩ := bl3f hz2
        obtain ⟨ra, rc, rfl, _⟩ := hbt2.form
        rw [← HE.out.1] at *
        have H2 : Hid _ := And.intro hbt2 (And.intro hz2 (And.intro hbw2 hrv2))
        clear hbt2 hb2 hz2 hbw2 hrv2
        go_wp2_with fail
        obtain ⟨k1, k2, k3, k4⟩ := set3 H2.out.2.2.1 (Nat.le_refl _) H2.out.2.1 (.bool C.1) (.slice ra C.2.1.length rc) (.int .i64 C.2.2)
        have hbt9 := H2.out.1.kept (Nat.le_of_eq k4.symm) k3 (fun k hk hn e => by have := H2.out.2.2.2 k hk; omega)
        generalize (((w2.setCell ⟨w.heap.size, 0, none⟩ (.bool C.1)).setCell ⟨w.heap.size, 1, none⟩ (.slice ra C.2.1.length rc)).setCell ⟨w.heap.size, 2, none⟩ (.int .i64 C.2.2)) = W9 at *
        obtain ⟨j0, j1, j2⟩ := bl3 k1
        exact bodyPost_ret (v := nmV C.1 (.slice ra C.2.1.length rc) C.2.2) (by simp [results, Tryd.results7, go_sem, j0, j1, j2]) rfl ⟨_, rfl, hbt9, fun k hk => by have := H2.out.2.2.2 k hk; omega, k2⟩
end Go.Proofs.YtakemkhgaicckaaDoor
