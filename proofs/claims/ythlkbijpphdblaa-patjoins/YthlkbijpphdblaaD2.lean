/- A node's kids, as a row of pointers. -/
import Derived.Test.YthlkbijpphdblaaD1
import Derived.OwnWalk
namespace Go.Proofs.Ythlkbijpphdblaa
open Go.RowKit
set_option linter.unusedVariables false

/-- A tree that stands at an address. -/
structure TrA (w : World) (g off : Nat) (n : Nd) : Prop where
  mk ::
  ex : ∃ O cs, NdV O w n cs ∧ (∀ r u, cs[r]? = some u → w.cell? ⟨g, off + r, none⟩ = some u) ∧ ∃ arr, w.heap[g]? = some (.cells arr 27 (0, 0))
def Nd.kind : Nd → Int
  | .nd k _ _ _ _ => k
def Nd.mn : Nd → Int
  | .nd _ _ a _ _ => a
def Nd.mx : Nd → Int
  | .nd _ _ _ b _ => b
def Nd.kids : Nd → List Nd
  | .nd _ _ _ _ ks => ks
def hasK (k : Int) : Bool := decide (k = 3 ∨ k = 4 ∨ k = 5)
/-- The kids of those kinds that have some. -/
def Nd.kds (n : Nd) : List Nd := if hasK n.kind = true then n.kids else []
/-- Rows of kids are not too long. -/
inductive Sml : Nd → Prop
  | mk {n : Nd} (h : n.kids.length ≤ 100000) (hk : ∀ x ∈ n.kids, Sml x) : Sml n
/-- What a node's cells are, and where its kids stand. -/
theorem TrA.inv {w : World} {g off : Nat} {n : Nd} (h : TrA w g off n) : ∃ vs ad cap, w.cell? ⟨g, off, none⟩ = some (.int .i64 n.kind) ∧ w.cell? ⟨g, off + 1, none⟩ = some vs ∧ w.cell? ⟨g, off + 2, none⟩ = some (.int .i64 n.mn) ∧ w.cell? ⟨g, off + 3, none⟩ = some (.int .i64 n.mx) ∧ w.cell? ⟨g, off + 4, none⟩ = some (.slice ad n.kids.length cap) ∧ n.kids.length ≤ cap ∧
    (n.kids = [] ∨ ∃ kg ko, ad = some ⟨kg, ko, none⟩ ∧ ∀ j (hj : j < n.kids.length), TrA w kg (ko + j * 5) n.kids[j]) := by
  obtain ⟨O, cs, hn, hc, _⟩ := h.ex
  cases hn with
  | mk k a b s ks vs ad cap css hs hl hcap hk hnn =>
    refine ⟨vs, ad, cap, hc 0 _ rfl, hc 1 _ rfl, hc 2 _ rfl, hc 3 _ rfl, hc 4 _ rfl, hcap, ?_⟩
    rcases hk with h | ⟨kg, ko, rfl, hO, hgs, harr, hcell⟩
    · exact .inl h
    · exact .inr ⟨kg, ko, rfl, fun j hj => ⟨O, css.getD j [], hnn j hj, hcell j, harr⟩⟩
theorem TrA.below {w w' : World} {g off : Nat} {n : Nd} (h : TrA w g off n) (hb : Below w.heap.size w w') : TrA w' g off n := by
  obtain ⟨O, cs, hn, hc, arr, ha⟩ := h.ex
  exact ⟨O, cs, hn.fro (fun _ q => q) hb.size (fun g _ hgs => hb.block g hgs), fun r u hu => cell_of (hb.block g (lt_of ha)) (hc r u hu), arr, (hb.block g (lt_of ha)).trans ha⟩
theorem TrA.nb {w : World} {g off : Nat} {n : Nd} (h : TrA w g off n) : Nb w ⟨g, off, none⟩ := by
  obtain ⟨O, cs, hn, hc, arr, ha⟩ := h.ex
  exact ⟨arr, ha⟩
abbrev ptV (a : Nat × Nat) : Value := .pointer (some ⟨a.1, a.2, none⟩)
theorem info_np : (Try.prog.info? 71).map (fun i => (i.zero.map fun z => z.cells.size, i.size, i.bytes)) = some (some 1, 1, 8) := by kernel_rfl
theorem info_npp : ∃ i z, Try.prog.info? 71 = some i ∧ i.zero = some z ∧ z.cells.size = 1 ∧ i.size = 1 ∧ i.bytes = 8 := by
  have := info_np
  cases h : Try.prog.info? 71 with
  | none => rw [h] at this; simp at this
  | some i =>
    rw [h] at this
    simp at this
    obtain ⟨⟨z, h1, h2⟩, h3, h4⟩ := this
    exact ⟨i, z, rfl, h1, h2, h3, h4⟩
/-- A row of pointers to trees. -/
structure Pts (w : World) (ps : List (Nat × Nat)) (ns : List Nd) : Prop where
  len : ps.length = ns.length
  tr : ∀ j (hj : j < ns.length) (hj' : j < ps.length), TrA w ps[j].1 ps[j].2 ns[j]
/-- Where the kids of a node stand. -/
def kidOf (w : World) (a : Nat × Nat) : List (Nat × Nat) := match w.cell? ⟨a.1, a.2, none⟩, w.cell? ⟨a.1, a.2 + 4, none⟩ with
  | some (.int _ k), some (.slice (some ad) len _) => if hasK k = true then (List.range len).map fun j => (ad.block, ad.off + j * 5) else []
  | _, _ => []
def KiQ (w : World) (a : Nat × Nat) (n : Nd) (e : Ending) (w' : World) : Prop := ∃ v ps, e = .returned v ∧ ps = kidOf w a ∧ Pts w ps n.kds ∧ w'.ownsRow w.heap.size 71 1 v n.kds.length (ps.map ptV) ∧ Below w.heap.size w w'
def KiR (w : World) (ps : List (Nat × Nat)) (N i : Nat) (wr : World) : Prop := ∃ xs : List Value, (∀ j (hj : j < ps.length), j < i → xs[j]? = some (ptV ps[j])) ∧ wr.ownsRow w.heap.size 71 1 (.slice (some ⟨w.heap.size, 0, none⟩) N N) N xs ∧ Below w.heap.size w wr
theorem set_get {xs : List Value} {ps : List (Nat × Nat)} {i N : Nat} {q : Nat × Nat} (hl : xs.length = N) (hlt : i < N) (hp : ps[i]? = some q) (h : ∀ j (hj : j < ps.length), j < i → xs[j]? = some (ptV ps[j])) (j : Nat) (hj : j < ps.length) (hji : j < i + 1) : (xs.set i (ptV q))[j]? = some (ptV ps[j]) := by
  by_cases e : i = j
  · subst e
    rw [List.getElem?_set_self (by omega)]
    rw [List.getElem?_eq_getElem hj] at hp
    injection hp with hp
    rw [hp]
  · rw [List.getElem?_set_ne e]
    exact h j hj (by omega)
set_option maxHeartbeats 4000000 in
theorem kids_p {w : World} {g off : Nat} {n : Nd} (h : TrA w g off n) (hs : Sml n) : Calls Try.prog 45 #[ptV (g, off)] w fun e w' => KiQ w (g, off) n e w' := by
  obtain ⟨i71, z71, hi71, hz0, hzc, hz1, hz3⟩ := info_npp
  obtain ⟨vs, ad, cap, c0, c1, c2, c3, c4, hcap, hkid⟩ := h.inv
  obtain ⟨hlen, hks⟩ := hs
  obtain ⟨kd, hkd⟩ : ∃ kd, n.kind = kd := ⟨_, rfl⟩
  rw [hkd] at c0
  have HH : Hid _ := And.intro h hkd
  clear h hkd
  by_cases hk : kd = 3 ∨ kd = 4 ∨ kd = 5
  · have hkds : n.kds = n.kids := by unfold Nd.kds hasK; rw [HH.out.2, decide_eq_true hk, if_pos rfl]
    obtain ⟨N, hN⟩ : ∃ N, n.kids.length = N := ⟨_, rfl⟩
    obtain ⟨ps, hpt⟩ : ∃ ps : List (Nat × Nat), (ps = kidOf w (g, off) ∧ Pts w ps n.kids) ∧ (∀ j, j < N → ∃ kg ko, ad = some ⟨kg, ko, none⟩ ∧ ps[j]? = some (kg, ko + j * 5)) := by
      rcases hkid with h | ⟨kg, ko, rfl, ht⟩
      · refine ⟨[], ⟨?_, by rw [h]; rfl, fun j hj => by rw [h] at hj; simp at hj⟩, fun j hj => by rw [← hN, h] at hj; simp at hj⟩
        unfold kidOf
        rw [c0, c4, h]
        cases ad <;> simp
      · refine ⟨(List.range N).map fun j => (kg, ko + j * 5), ⟨?_, by simp [hN], fun j hj hj' => ?_⟩, fun j hj => ⟨kg, ko, rfl, by simp [hj]⟩⟩
        · unfold kidOf
          rw [c0, c4, hN]
          show _ = if hasK kd = true then _ else _
          unfold hasK
          rw [decide_eq_true hk, if_pos rfl]
        have := ht j hj
        simpa using this
    have hasl : ps.length = N := by rw [hpt.1.2.len, hN]
    rw [hN] at c4 hlen
    have HP : Hid _ := And.intro hpt (And.intro hkds (And.intro hN hasl))
    clear hpt hkds hN hasl hkid hks hcap
    have sub3 : ∀ K, (K = 3 ∨ K = 4 ∨ K = 5) → kd = K → True := fun _ _ _ => trivial
    rcases hk with rfl | rfl | rfl
    all_goals
      go_enter Try.func45, Try.ntmps45
      go_wp2_with (first | (at_make; go_loud (refine wpList_make_full _ rfl (.tmp 17) (.tmp 17) 85 rfl w.heap.size 71 i71 z71 1 Try.underlying85 hi71 hz0 hz1 .i64 .i64 (N : Int) (N : Int) N rfl rfl rfl rfl (by rw [hz3]; omega) (by unfold maxLen; omega) (Nat.le_refl _) ?_); intro w1 hown1 hg1; have H1 : Hid _ := And.intro hown1 hg1; clear hown1 hg1))
      go_loopg [21] N (fun gh v21 wr => ∃ i : Nat, i + gh = N ∧ v21 = .int .i64 (i : Int) ∧ KiR w ps N i wr)
      case atStart => exact ⟨0, by omega, rfl, _, fun j _ hj => by omega, H1.out.1, (Below.refl _ _).grown H1.out.2 (Nat.le_refl _) (fun j hj => by cases hj)⟩
      case round =>
        obtain ⟨i, hi, rfl, xs, hxs, hown, hb⟩ := hrel
        clear H1
        by_cases hlt : i < N
        · obtain ⟨gh, rfl⟩ : ∃ gh', gk = gh' + 1 := ⟨gk - 1, by omega⟩
          obtain ⟨kg, ko, rfl, hps⟩ := HP.out.1.2 i hlt
          have hgl : g < w.heap.size := by obtain ⟨arr, ha⟩ := HH.out.1.nb; exact lt_of ha
          have d4 := (hb.cell (p := ⟨g, off + 4, none⟩) hgl).trans c4
          have hst := World.ownsRow.stored hown i (ptV (kg, ko + i * 5))
          have hxl : xs.length = N := by have := hown.1; omega
          have hcell := hown.cells (g := w.heap.size) rfl i (xs[i]'(by omega)) (by rw [List.getElem?_eq_getElem])
          rw [addr_add, Nat.zero_add] at hcell
          obtain ⟨old, hold⟩ : ∃ old, xs[i]'(by omega) = old := ⟨_, rfl⟩
          rw [hold] at hcell
          clear hold
          have hfr : wr.frozen? ⟨w.heap.size, i, none⟩ = false := by
            rcases hown.2 with ⟨e, _⟩ | ⟨g', cap', cur, e, _, hh, _⟩
            · simp at e
            · simp only [Value.slice.injEq, Option.some.injEq, Addr.mk.injEq, and_true] at e
              obtain ⟨rfl, _⟩ := e
              simp [World.frozen?, hh]
          have H2 : Hid _ := And.intro hst (And.intro hxs (And.intro hb (And.intro hps hxl)))
          have i0 : (0 : Int) ≤ (i : Int) := by omega
          have i1 : (i : Int) < (N : Int) := by omega
          clear hst hxs hb hown hps hxl
          go_wp2_with fail
          go_roundg gh
          case measure => omega
          case rel =>
            refine ⟨i + 1, by omega, by go_num, xs.set i (ptV (kg, ko + i * 5)), fun j hj hji => ?_, H2.out.1.1, H2.out.2.2.1.grown H2.out.1.2 H2.out.2.2.1.size (fun k hk => by simp at hk; omega)⟩
            exact set_get H2.out.2.2.2.2 hlt H2.out.2.2.2.1 H2.out.2.1 j hj hji
        · have hiN : i = N := by omega
          subst hiN
          have H2 : Hid _ := And.intro hxs (And.intro hown hb)
          clear hxs hown hb
          go_wp2_with fail
          go_ret
          refine ⟨_, ps, rfl, HP.out.1.1.1, by rw [HP.out.2.1]; exact HP.out.1.1.2, ?_, H2.out.2.2⟩
          rw [HP.out.2.1, HP.out.2.2.1]
          have hxl : xs.length = i := by have := H2.out.2.1.1; omega
          have e : xs = ps.map ptV := by
            apply List.ext_getElem?
            intro j
            by_cases hj : j < ps.length
            · rw [H2.out.1 j hj (by have := HP.out.2.2.2; omega), List.getElem?_map, List.getElem?_eq_getElem hj]
              rfl
            · have := HP.out.2.2.2
              rw [List.getElem?_eq_none (by omega), List.getElem?_eq_none (by simp; omega)]
          rw [← e]
          exact H2.out.2.1
  · have hkds : n.kds = [] := by unfold Nd.kds hasK; rw [HH.out.2, decide_eq_false hk, if_neg (by decide)]
    have n3 : ¬ kd = 3 := fun q => hk (.inl q)
    have n4 : ¬ kd = 4 := fun q => hk (.inr (.inl q))
    have n5 : ¬ kd = 5 := fun q => hk (.inr (.inr q))
    have m3 : (kd == 3) = false := by simpa using n3
    have m4 : (kd == 4) = false := by simpa using n4
    have m5 : (kd == 5) = false := by simpa using n5
    clear hk
    go_enter Try.func45, Try.ntmps45
    go_wp2_with fail
    go_ret
    refine ⟨_, [], rfl, ?_, ⟨by rw [hkds]; rfl, fun j hj => by rw [hkds] at hj; simp at hj⟩, ?_, Below.refl _ _⟩
    · unfold kidOf
      rw [c0, c4]
      cases ad with
      | none => rfl
      | some x =>
        show _ = if hasK kd = true then _ else _
        have : hasK kd = false := by unfold hasK; simp; exact ⟨n3, n4, n5⟩
        rw [this, if_neg (by decide)]
    rw [hkds]
    exact ⟨rfl, .inl ⟨rfl, rfl⟩⟩
end Go.Proofs.Ythlkbijpphdblaa
