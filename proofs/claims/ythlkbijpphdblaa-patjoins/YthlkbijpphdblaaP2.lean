/- The program: the search, Has. -/
import Derived.Test.YthlkbijpphdblaaZ6
import Derived.Shelf.Abstract
namespace Go.Proofs.Ythlkbijpphdblaa
open Go.RowKit
set_option linter.unusedVariables false

theorem cn_lt {l : List Rg} (h : Cn l) {p q : Nat} (hp : p < q) (hq : q < l.length) : l[p].2 + 2 ≤ l[q].1 := by
  have := List.pairwise_iff_getElem.1 h.pw p q (by omega) hq hp
  exact this
theorem cn_hi {l : List Rg} (h : Cn l) {p q : Nat} (hp : p ≤ q) (hq : q < l.length) : l[p].2 ≤ l[q].2 := by
  rcases Nat.lt_or_eq_of_le hp with hp | rfl
  · have := cn_lt h hp hq
    have := h.ok l[q] (by simp)
    omega
  · exact Int.le_refl _
theorem bs_in {l : List Rg} {x : Int} {i : Nat} (h : Cn l) (hi : i < l.length) (h1 : ∀ p (hp : p < l.length), p < i → l[p].2 < x) (h2 : ∀ p (hp : p < l.length), i ≤ p → x ≤ l[p].2) : memB l x = decide (l[i].1 ≤ x) := by
  have hx := h2 i hi (Nat.le_refl _)
  rw [Bool.eq_iff_iff, mem_iff, decide_eq_true_eq]
  constructor
  · rintro ⟨r, hr, a, b⟩
    obtain ⟨p, hp, rfl⟩ := List.getElem_of_mem hr
    rcases Nat.lt_trichotomy p i with q | q | q
    · have := h1 p hp q; omega
    · subst q; exact a
    · have := cn_lt h q hp; omega
  · intro a
    exact ⟨l[i], by simp, a, hx⟩
theorem bs_out {l : List Rg} {x : Int} (h1 : ∀ p (hp : p < l.length), l[p].2 < x) : memB l x = false := by
  cases e : memB l x with
  | false => rfl
  | true =>
    obtain ⟨r, hr, a, b⟩ := mem_iff.1 e
    obtain ⟨p, hp, rfl⟩ := List.getElem_of_mem hr
    have := h1 p hp
    omega
set_option maxHeartbeats 2000000 in
theorem search_p (v : Value) (l : List Rg) (x : Int) (w : World) (h : Sl .i32 w v l) (hc : Cn l) (hn : l.length ≤ 1000000) : Calls Try.prog 27 #[v, .int .i32 x, .func (.func 28) #[] #[]] w fun e w' => ∃ i : Int, e = .returned (.tuple #[.int .i64 i, .bool (memB l x)]) ∧ Below w.heap.size w w' := by
  obtain ⟨a, cap, rfl, hcap, h⟩ := h
  have HX : Hid _ := And.intro h hc
  clear h hc
  have eg : ∀ args w, (callFunc 28 args).run Try.prog w = .ok (.enter 28 args) w := enters_of Try.func28 (by kernel_rfl) rfl
  obtain ⟨B, hB⟩ : ∃ B, memB l x = B := ⟨_, rfl⟩
  rw [hB]
  have HBB : Hid _ := hB
  clear hB
  go_enter Try.func27, Try.ntmps27
  go_wp2_with fail
  go_loopg [9, 10] l.length (fun g v9 v10 wr => ∃ (i j : Nat), j - i ≤ g ∧ i ≤ j ∧ j ≤ l.length ∧ v9 = .int .i64 (i : Int) ∧ v10 = .int .i64 (j : Int) ∧ (∀ p (hp : p < l.length), p < i → l[p].2 < x) ∧ (∀ p (hp : p < l.length), j ≤ p → x ≤ l[p].2) ∧ Below w.heap.size w wr)
  case atStart => exact ⟨0, l.length, by omega, by omega, by omega, rfl, rfl, fun p hp q => by omega, fun p hp q => by omega, Below.refl _ _⟩
  case round =>
    obtain ⟨i, j, hg, hij, hjl, rfl, rfl, h1, h2, hb⟩ := hrel
    have HB : Hid _ := And.intro hb (And.intro h1 h2)
    clear hb h1 h2
    by_cases hlt : i < j
    · obtain ⟨g, rfl⟩ : ∃ g, gk = g + 1 := ⟨gk - 1, by omega⟩
      obtain ⟨k, hk⟩ : ∃ k : Nat, (i + j) / 2 = k := ⟨_, rfl⟩
      have hk1 : i ≤ k ∧ k < j := by omega
      obtain ⟨hk2, hk3⟩ := hk1
      have hkI : ((i : Int) + (j : Int)) / 2 = (k : Int) := by omega
      have hkl : k < l.length := by omega
      rcases HX.out.1 with hx | ⟨b, off, rfl, hbl, hx⟩
      · rw [hx] at hkl; simp at hkl
      obtain ⟨c0, c1⟩ := hx k hkl
      have e0 := (HB.out.1.cell (p := ⟨b, off + k * 2, none⟩) hbl).trans c0
      have e1 := (HB.out.1.cell (p := ⟨b, off + k * 2 + 1, none⟩) hbl).trans c1
      have hlo : l[k].2 < x → ∀ p (hp : p < l.length), p < k + 1 → l[p].2 < x := fun q p hp hpk => by have := cn_hi HX.out.2 (p := p) (q := k) (by omega) hkl; omega
      have hhi : ¬ l[k].2 < x → ∀ p (hp : p < l.length), k ≤ p → x ≤ l[p].2 := fun q p hp hpk => by have := cn_hi HX.out.2 (p := k) (q := p) (by omega) hp; omega
      have q1 := side_p l[k] x wr
      generalize l[k] = r at *
      obtain ⟨r0, r1⟩ := r
      dsimp only at *
      clear c0 c1 hx hk
      by_cases hr : r1 < x
      · rw [if_pos hr] at q1
        have HQ : Hid _ := And.intro q1 (hlo hr)
        clear q1 hlo hhi
        go_wp2_with fail
        refine Calls.mono HQ.out.1 ?_
        rintro e w1 ⟨rfl, hb1⟩
        go_wp2_with fail
        go_roundg g
        case measure => omega
        case rel => exact ⟨k + 1, j, by omega, by omega, hjl, by simp, rfl, HQ.out.2, HB.out.2.2, HB.out.1.trans (hb1.mono HB.out.1.size)⟩
      · rw [if_neg hr] at q1
        have HQ : Hid _ := And.intro q1 (hhi hr)
        clear q1 hlo hhi
        obtain ⟨S, hS⟩ : ∃ S : Int, (if x < r0 then 1 else 0) = S := ⟨_, rfl⟩
        have hS0 : ¬ S < 0 := by rw [← hS]; split <;> omega
        rw [hS] at HQ
        clear hS
        go_wp2_with fail
        refine Calls.mono HQ.out.1 ?_
        rintro e w1 ⟨rfl, hb1⟩
        go_wp2_with fail
        go_roundg g
        case measure => omega
        case rel => exact ⟨i, k, by omega, by omega, by omega, rfl, rfl, HB.out.2.1, HQ.out.2, HB.out.1.trans (hb1.mono HB.out.1.size)⟩
    · have hij' : j = i := by omega
      subst hij'
      by_cases hil : j < l.length
      · rcases HX.out.1 with hx | ⟨b, off, rfl, hbl, hx⟩
        · rw [hx] at hil; simp at hil
        obtain ⟨c0, c1⟩ := hx j hil
        have e0 := (HB.out.1.cell (p := ⟨b, off + j * 2, none⟩) hbl).trans c0
        have e1 := (HB.out.1.cell (p := ⟨b, off + j * 2 + 1, none⟩) hbl).trans c1
        have hin := bs_in HX.out.2 hil HB.out.2.1 HB.out.2.2
        have hge := HB.out.2.2 j hil (Nat.le_refl _)
        have q1 := side_p l[j] x wr
        generalize l[j] = r at *
        obtain ⟨r0, r1⟩ := r
        dsimp only at *
        clear c0 c1 hx
        rw [if_neg (by omega)] at q1
        rw [HBB.out] at hin
        by_cases hr : x < r0
        · rw [if_pos hr] at q1
          rw [decide_eq_false (by omega)] at hin
          have HQ : Hid _ := q1
          clear q1
          subst hin
          go_wp2_with fail
          refine Calls.mono HQ.out ?_
          rintro e w1 ⟨rfl, hb1⟩
          go_wp2_with fail
          go_ret2
          exact ⟨_, rfl, HB.out.1.trans (hb1.mono HB.out.1.size)⟩
        · rw [if_neg hr] at q1
          rw [decide_eq_true (by omega)] at hin
          have HQ : Hid _ := q1
          clear q1
          subst hin
          go_wp2_with fail
          refine Calls.mono HQ.out ?_
          rintro e w1 ⟨rfl, hb1⟩
          go_wp2_with fail
          go_ret2
          exact ⟨_, rfl, HB.out.1.trans (hb1.mono HB.out.1.size)⟩
      · have hout := bs_out (l := l) (x := x) (fun p hp => HB.out.2.1 p hp (by omega))
        rw [HBB.out] at hout
        subst hout
        go_wp2_with fail
        go_ret2
        exact ⟨_, rfl, HB.out.1⟩
theorem has_p (v : Value) (l : List Rg) (x : Int) (w : World) (h : Sl .i32 w v l) (hc : Cn l) (hn : l.length ≤ 1000000) : Calls Try.prog 13 #[v, .int .i32 x] w fun e w' => e = .returned (.bool (memB l x)) ∧ Below w.heap.size w w' := by
  have q1 := search_p v l x w h hc hn
  generalize memB l x = B at *
  have HQ : Hid _ := q1
  clear q1
  obtain ⟨a, cap, rfl, hcap, h⟩ := h
  go_enter Try.func13, Try.ntmps13
  go_wp2_with fail
  refine Calls.mono HQ.out ?_
  rintro e w1 ⟨i, rfl, hb1⟩
  go_wp2_with fail
  go_ret
  exact ⟨rfl, hb1⟩
end Go.Proofs.Ythlkbijpphdblaa
