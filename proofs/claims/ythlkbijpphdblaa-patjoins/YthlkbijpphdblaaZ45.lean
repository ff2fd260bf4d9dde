/- Joined: D7, D8. -/
import Derived.Test.YthlkbijpphdblaaD6
namespace Go.Proofs.Ythlkbijpphdblaa
open Go.RowKit
set_option linter.unusedVariables false

def dpW (n : Nd) (l : List Int) : Int := l.foldl max 0 + 1
def tmS (n : Nd) : Int := if n.mx < 0 then max n.mn 1 else n.mx
def cutS (most c : Int) : Int := min c (most + 1)
def smS (most : Int) (l : List Int) : Int := l.foldl (fun s k => cutS most (s + k)) 0
def poW (most : Int) (n : Nd) (l : List Int) : Int := if n.kind = 2 then 1 else if n.kind = 5 then cutS most (smS most l * cutS most (tmS n)) else smS most l
theorem fmax_bd : ∀ (l : List Int) (a B : Int), 0 ≤ a → a ≤ B → (∀ x ∈ l, 0 ≤ x ∧ x ≤ B) → 0 ≤ l.foldl max a ∧ l.foldl max a ≤ B
  | [], a, B, h0, h1, h => ⟨h0, h1⟩
  | x :: l, a, B, h0, h1, h => by
    have := h x (by simp)
    exact fmax_bd l (max a x) B (by omega) (by omega) (fun y hy => h y (by simp [hy]))
mutual
theorem dp_bd : ∀ n : Nd, 0 ≤ fdF dpW n ∧ fdF dpW n ≤ wtF n
  | .nd k s a b ks => by
    show 0 ≤ dpW (.nd k s a b ks) (if hasK k = true then fdL dpW ks else []) ∧ dpW (.nd k s a b ks) (if hasK k = true then fdL dpW ks else []) ≤ ((2 + (if hasK k = true then wtL ks else 0) : Nat) : Int)
    unfold dpW
    by_cases h : hasK k = true
    · rw [if_pos h, if_pos h]
      have := fmax_bd (fdL dpW ks) 0 (wtL ks) (by omega) (by omega) (dpL_bd ks)
      unfold dpW at this
      omega
    · rw [if_neg h, if_neg h]
      simp
theorem dpL_bd : ∀ l : List Nd, ∀ x ∈ fdL dpW l, 0 ≤ x ∧ x ≤ (wtL l : Int)
  | [], x, hx => by simp [fdL] at hx
  | y :: l, x, hx => by
    have hx' : x ∈ fdF dpW y :: fdL dpW l := hx
    have hw : wtL (y :: l) = wtF y + wtL l := rfl
    rcases List.mem_cons.1 hx' with q | q
    · have := dp_bd y; rw [q, hw]; omega
    · have := dpL_bd l x q; rw [hw]; omega
end
set_option maxHeartbeats 1000000 in
theorem deepc_p (W : World) (p : Nat × Nat) (v : Value) (l : List Int) (h : Ints W v l) (hb : ∀ x ∈ l, 0 ≤ x ∧ x ≤ 1000000) (hl : l.length ≤ 100000) (n : Nd) : Calls Try.prog 34 #[ptV p, v] W fun e w' => e = .returned (.int .i64 (dpW n l)) ∧ ∃ m, w' = W.drewN m := by
  obtain ⟨a, cap, rfl, hc⟩ := h
  have HH : Hid _ := And.intro hc hb
  clear hc hb
  unfold dpW
  go_enter Try.func34, Try.ntmps34
  go_wp2_with fail
  go_loopg [5, 10] l.length (fun g v5 v10 wr => ∃ i : Nat, i + g = l.length ∧ v10 = .int .i64 (i : Int) ∧ v5 = .int .i64 ((l.take i).foldl max 0) ∧ wr = W)
  case atStart => exact ⟨0, by omega, rfl, rfl, rfl⟩
  case round =>
    obtain ⟨i, hi, rfl, rfl, hw⟩ := hrel
    subst hw
    have hbd := fmax_bd (l.take i) 0 1000000 (by omega) (by omega) (fun x hx => HH.out.2 x (List.mem_of_mem_take hx))
    by_cases hlt : i < l.length
    · obtain ⟨g, rfl⟩ : ∃ g, gk = g + 1 := ⟨gk - 1, by omega⟩
      rcases HH.out.1 with hn | ⟨gb, rfl, hc⟩
      · rw [hn] at hlt; simp at hlt
      have c0 := hc i hlt
      have hx := HH.out.2 l[i] (List.getElem_mem hlt)
      have htk : (l.take (i + 1)).foldl max 0 = max ((l.take i).foldl max 0) l[i] := by
        rw [List.take_succ_eq_append_getElem hlt, List.foldl_append]
        rfl
      have HT : Hid _ := htk
      clear htk hc
      generalize l[i] = x at *
      generalize (l.take i).foldl max 0 = M at *
      obtain ⟨hx0, hx1⟩ := hx
      obtain ⟨hm0, hm1⟩ := hbd
      have i0 : (0 : Int) ≤ (i : Int) := by omega
      have i1 : (i : Int) < (l.length : Int) := by omega
      go_wp2_with fail
      go_roundg g
      case measure => omega
      case rel => exact ⟨i + 1, by omega, by go_num, by rw [HT.out], rfl⟩
    · have hil : i = l.length := by omega
      subst hil
      rw [List.take_length] at hbd ⊢
      obtain ⟨M, hM⟩ : ∃ M, l.foldl max 0 = M := ⟨_, rfl⟩
      have HM : Hid _ := hM
      rw [hM] at hbd ⊢
      clear hM
      obtain ⟨hm0, hm1⟩ := hbd
      go_wp2_with fail
      go_ret
      exact ⟨ret_int (by rw [HM.out]), 0, rfl⟩
theorem tra_box {O : Nat → Prop} {W : World} {R : Nat} {n : Nd} {c0 c1 c2 c3 c4 : Value} (h : NdV O W n [c0, c1, c2, c3, c4]) (hR : W.heap[R]? = some (.cells #[c0, c1, c2, c3, c4] 27 (0, 0))) : TrA W R 0 n :=
  ⟨O, _, h, fun r u hu => by
    rw [Nat.zero_add]
    simp only [World.cell?, hR]
    simpa using hu, _, hR⟩
set_option maxHeartbeats 1000000 in
theorem deep_p {O : Nat → Prop} {w : World} {n : Nd} {q0 : Int} {s0 : Option Addr} {s1 s2 : Nat} {q2 q3 : Int} {t0 : Option Addr} {t1 t2 : Nat} (h : NdV O w n [.int .i64 q0, .slice s0 s1 s2, .int .i64 q2, .int .i64 q3, .slice t0 t1 t2]) (hs : Sml n) (hwt : wtF n ≤ 1000000) : Calls Try.prog 16 #[.agg #[.int .i64 q0, .slice s0 s1 s2, .int .i64 q2, .int .i64 q3, .slice t0 t1 t2]] w fun e w' => e = .returned (.int .i64 (fdF dpW n)) ∧ Below w.heap.size w w' := by
  have xR := nw_heap w (.cells #[.int .i64 q0, .slice s0 s1 s2, .int .i64 q2, .int .i64 q3, .slice t0 t1 t2] 27)
  have bR : Below w.heap.size w (w.alloc (.cells #[.int .i64 q0, .slice s0 s1 s2, .int .i64 q2, .int .i64 q3, .slice t0 t1 t2] 27)) := (Below.refl _ _).alloc (Nat.le_refl _) _
  have hT := tra_box (h.fro (fun _ q => q) bR.size (fun g _ hgs => bR.block g hgs)) xR
  have hq := fold_dp (root := (w.heap.size, 0)) hT hs hwt (wk := dpW) (fun W g off n v l hb ht hi hl hw hln => deepc_p W (g, off) v l hi (fun x hx => by
    subst hl
    rw [List.mem_map] at hx
    obtain ⟨y, hy, rfl⟩ := hx
    have := dp_bd y
    have := wt_kid hy
    omega) hln n) (fun n => (dp_bd n).1)
  have HQ : Hid _ := And.intro hq bR
  clear hq bR hT xR h
  go_enter Try.func16, Try.ntmps16
  go_wp2_with fail
  refine Calls.mono HQ.out.1 ?_
  rintro e w1 ⟨rfl, hb1⟩
  have H1 : Hid _ := HQ.out.2.trans (hb1.mono HQ.out.2.size)
  clear hb1
  go_wp2_with fail
  go_ret
  exact ⟨rfl, H1.out⟩
end Go.Proofs.Ythlkbijpphdblaa
namespace Go.Proofs.Ythlkbijpphdblaa
open Go.RowKit
set_option linter.unusedVariables false

theorem sm_bd {most : Int} (hm : 0 ≤ most) : ∀ (l : List Int) (a : Int), 0 ≤ a → a ≤ most + 1 → (∀ x ∈ l, 0 ≤ x) → 0 ≤ l.foldl (fun s k => cutS most (s + k)) a ∧ l.foldl (fun s k => cutS most (s + k)) a ≤ most + 1
  | [], a, h0, h1, h => ⟨h0, h1⟩
  | x :: l, a, h0, h1, h => by
    have := h x (by simp)
    exact sm_bd hm l (cutS most (a + x)) (by unfold cutS; omega) (by unfold cutS; omega) (fun y hy => h y (by simp [hy]))
theorem tm_nn (n : Nd) : 0 ≤ tmS n := by unfold tmS; split <;> omega
theorem mul_bd {a b M : Int} (ha : 0 ≤ a) (ha' : a ≤ M) (hb : 0 ≤ b) (hb' : b ≤ M) : 0 ≤ a * b ∧ a * b ≤ M * M := ⟨Int.mul_nonneg ha hb, Int.mul_le_mul ha' hb' hb (by omega)⟩
mutual
theorem po_bd {most : Int} (hm : 0 ≤ most) : ∀ n : Nd, 0 ≤ fdF (poW most) n ∧ fdF (poW most) n ≤ most + 1
  | .nd k s a b ks => by
    show 0 ≤ poW most (.nd k s a b ks) (if hasK k = true then fdL (poW most) ks else []) ∧ poW most (.nd k s a b ks) (if hasK k = true then fdL (poW most) ks else []) ≤ most + 1
    have hl : ∀ x ∈ (if hasK k = true then fdL (poW most) ks else []), 0 ≤ x := fun x hx => by
      split at hx
      · exact (poL_bd hm ks x hx).1
      · simp at hx
    generalize (if hasK k = true then fdL (poW most) ks else []) = L at *
    have h1 := sm_bd hm L 0 (by omega) (by omega) hl
    have h2 := tm_nn (.nd k s a b ks)
    unfold poW
    split
    · omega
    · split
      · have h3 : 0 ≤ smS most L * cutS most (tmS (.nd k s a b ks)) := Int.mul_nonneg h1.1 (by unfold cutS; omega)
        unfold cutS at *
        omega
      · exact h1
theorem poL_bd {most : Int} (hm : 0 ≤ most) : ∀ l : List Nd, ∀ x ∈ fdL (poW most) l, 0 ≤ x ∧ x ≤ most + 1
  | [], x, hx => by simp [fdL] at hx
  | y :: l, x, hx => by
    have hx' : x ∈ fdF (poW most) y :: fdL (poW most) l := hx
    rcases List.mem_cons.1 hx' with q | q
    · have := po_bd hm y; rw [q]; exact this
    · exact poL_bd hm l x q
end
set_option maxHeartbeats 400000 in
theorem cut_p (W : World) (c most : Int) (M : Nat) (h0 : 0 ≤ most) (h1 : most ≤ 1048576) (hM : W.cell? ⟨M, 0, none⟩ = some (.int .i64 most)) : Calls Try.prog 30 #[.int .i64 c, .pointer (some ⟨M, 0, none⟩)] W fun e w' => e = .returned (.int .i64 (cutS most c)) ∧ w' = W := by
  unfold cutS
  go_enter Try.func30, Try.ntmps30
  go_wp2_with fail
  go_ret
  exact ⟨rfl, rfl⟩
set_option maxHeartbeats 400000 in
theorem times_n {W : World} {g off : Nat} {n : Nd} (h : TrA W g off n) : Calls Try.prog 33 #[ptV (g, off)] W fun e w' => e = .returned (.int .i64 (tmS n)) ∧ w' = W := by
  obtain ⟨vs, ad, cap, c0, c1, c2, c3, c4, _⟩ := h.inv
  unfold tmS
  generalize n.mx = mx at *
  generalize n.mn = mn at *
  by_cases hx : mx < 0
  · rw [if_pos hx]
    go_enter Try.func33, Try.ntmps33
    go_wp2_with fail
    go_ret
    exact ⟨rfl, rfl⟩
  · rw [if_neg hx]
    go_enter Try.func33, Try.ntmps33
    go_wp2_with fail
    go_ret
    exact ⟨rfl, rfl⟩
set_option maxHeartbeats 4000000 in
theorem posc_p {W : World} {g off : Nat} {n : Nd} {C M : Nat} {most : Int} (ht : TrA W g off n) (v : Value) (l : List Int) (h : Ints W v l) (h0 : 0 ≤ most) (h1 : most ≤ 1048576) (hM : W.cell? ⟨M, 0, none⟩ = some (.int .i64 most)) (hC : W.cell? ⟨C, 0, none⟩ = some (.func (.func 30) #[] #[.pointer (some ⟨M, 0, none⟩)])) (hb : ∀ x ∈ l, 0 ≤ x ∧ x ≤ most + 1) (hl : l.length ≤ 100000) : Calls Try.prog 32 #[ptV (g, off), v, .pointer (some ⟨C, 0, none⟩)] W fun e w' => e = .returned (.int .i64 (poW most n l)) ∧ ∃ m, w' = W.drewN m := by
  obtain ⟨a, cap, rfl, hc⟩ := h
  obtain ⟨vs, ad, kcap, c0, c1, c2, c3, c4, _⟩ := ht.inv
  have HH : Hid _ := And.intro hc (And.intro hb ht)
  have HQ : Hid _ := And.intro (fun c => cut_p W c most M h0 h1 hM) (fun m c => cut_p (W.drewN m) c most M h0 h1 hM)
  obtain ⟨R, hR⟩ : ∃ R, poW most n l = R := ⟨_, rfl⟩
  rw [hR]
  unfold poW at hR
  have HR : Hid _ := hR
  obtain ⟨kd, hkd⟩ : ∃ kd, n.kind = kd := ⟨_, rfl⟩
  rw [hkd] at c0
  have HK : Hid _ := hkd
  clear hc hb ht hR hkd c1 c2 c3 c4
  go_enter Try.func32, Try.ntmps32
  go_wp2_with fail
  go_loopg [6, 11] l.length (fun gh v6 v11 wr => ∃ i : Nat, i + gh = l.length ∧ v11 = .int .i64 (i : Int) ∧ v6 = .int .i64 (smS most (l.take i)) ∧ wr = W)
  case atStart => exact ⟨0, by omega, rfl, rfl, rfl⟩
  case round =>
    obtain ⟨i, hi, rfl, rfl, hw⟩ := hrel
    subst hw
    have hbd : 0 ≤ smS most (l.take i) ∧ smS most (l.take i) ≤ most + 1 := sm_bd h0 (l.take i) 0 (by omega) (by omega) (fun x hx => (HH.out.2.1 x (List.mem_of_mem_take hx)).1)
    by_cases hlt : i < l.length
    · obtain ⟨gh, rfl⟩ : ∃ gh, gk = gh + 1 := ⟨gk - 1, by omega⟩
      rcases HH.out.1 with hn | ⟨gb, rfl, hc⟩
      · rw [hn] at hlt; simp at hlt
      have d0 := hc i hlt
      have hx := HH.out.2.1 l[i] (List.getElem_mem hlt)
      have htk : smS most (l.take (i + 1)) = cutS most (smS most (l.take i) + l[i]) := by
        unfold smS
        rw [List.take_succ_eq_append_getElem hlt, List.foldl_append]
        rfl
      have HT : Hid _ := htk
      clear htk hc
      generalize l[i] = x at *
      generalize smS most (l.take i) = M' at *
      obtain ⟨hx0, hx1⟩ := hx
      obtain ⟨hm0, hm1⟩ := hbd
      have i0 : (0 : Int) ≤ (i : Int) := by omega
      have i1 : (i : Int) < (l.length : Int) := by omega
      go_wp2_with fail
      refine Calls.mono (HQ.out.1 _) ?_
      rintro e w2 ⟨rfl, hw⟩
      subst hw
      go_wp2_with fail
      go_roundg gh
      case measure => omega
      case rel => exact ⟨i + 1, by omega, by go_num, by rw [HT.out], rfl⟩
    · have hil : i = l.length := by omega
      subst hil
      rw [List.take_length] at hbd ⊢
      by_cases k2 : kd = 2
      · subst k2
        have hr := HR.out
        rw [HK.out, if_pos rfl] at hr
        have HR2 : Hid _ := hr
        clear hr
        go_wp2_with fail
        go_ret
        exact ⟨ret_int (by rw [← HR2.out]), 0, rfl⟩
      · have m2 : (kd == 2) = false := by simpa using k2
        by_cases k5 : kd = 5
        · subst k5
          have hr := HR.out
          rw [HK.out, if_neg (by decide), if_pos rfl] at hr
          have htm := tm_nn n
          obtain ⟨T, hT⟩ : ∃ T, tmS n = T := ⟨_, rfl⟩
          have qt := fun m => times_n (HH.out.2.2.below (below_drewN (w := wr) m))
          rw [hT] at qt hr htm
          obtain ⟨CT, hCT⟩ : ∃ CT, cutS most T = CT := ⟨_, rfl⟩
          have hCb : 0 ≤ CT ∧ CT ≤ most + 1 := by rw [← hCT]; unfold cutS; omega
          have q1 := fun m => HQ.out.2 m T
          rw [hCT] at q1 hr
          obtain ⟨SM, hSM⟩ : ∃ SM, smS most l = SM := ⟨_, rfl⟩
          rw [hSM] at hr hbd ⊢
          have hmul := mul_bd hbd.1 hbd.2 hCb.1 hCb.2
          have hmm : (most + 1) * (most + 1) ≤ 1048577 * 1048577 := Int.mul_le_mul (by omega) (by omega) (by omega) (by omega)
          have q2 := fun m => HQ.out.2 m (SM * CT)
          have hwm : IntKind.i64.wrap (SM * CT) = SM * CT := by rw [IntKind.wrap_i64]; omega
          obtain ⟨PR, hPR⟩ : ∃ PR, SM * CT = PR := ⟨_, rfl⟩
          have HR2 : Hid _ := And.intro hr (And.intro qt (And.intro q1 q2))
          obtain ⟨hs0, hs1⟩ := hbd
          obtain ⟨hc0, hc1⟩ := hCb
          clear hr qt q1 q2 hT hCT hSM hPR hmm
          go_wp2_with fail
          go_quiet (first | (go_at_call 33; with_reducible exact Calls.quiet_of_same (HR2.out.2.1 _)) | (go_at_call 30; with_reducible exact Calls.quiet_of_same (HR2.out.2.2.1 _)) | (go_at_call 30; with_reducible exact Calls.quiet_of_same (HR2.out.2.2.2 _)))
          go_wp2_with fail
          go_ret
          exact ⟨ret_int (by rw [← HR2.out.1]), _, rfl⟩
        · have m5 : (kd == 5) = false := by simpa using k5
          have hr := HR.out
          rw [HK.out, if_neg k2, if_neg k5] at hr
          have HR2 : Hid _ := hr
          clear hr
          go_wp2_with fail
          go_ret
          exact ⟨ret_int (by rw [← HR2.out]), 0, rfl⟩
end Go.Proofs.Ythlkbijpphdblaa
