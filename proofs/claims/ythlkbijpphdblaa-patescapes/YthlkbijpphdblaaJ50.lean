/- Joined: D9, E0. -/
import Derived.Test.YthlkbijpphdblaaD8
import Derived.Test.YthlkbijpphdblaaN4
import Derived.Laws.EntriesVeiled
namespace Go.Proofs.Ythlkbijpphdblaa
open Go.RowKit
set_option linter.unusedVariables false

set_option maxHeartbeats 2000000 in
theorem positions_p {O : Nat → Prop} {w : World} {n : Nd} {q0 : Int} {s0 : Option Addr} {s1 s2 : Nat} {q2 q3 : Int} {t0 : Option Addr} {t1 t2 : Nat} (h : NdV O w n [.int .i64 q0, .slice s0 s1 s2, .int .i64 q2, .int .i64 q3, .slice t0 t1 t2]) (hs : Sml n) (hwt : wtF n ≤ 1000000) (most : Int) (h0 : 0 ≤ most) (h1 : most ≤ 1048576) : Calls Try.prog 15 #[.agg #[.int .i64 q0, .slice s0 s1 s2, .int .i64 q2, .int .i64 q3, .slice t0 t1 t2], .int .i64 most] w fun e w' => e = .returned (.int .i64 (fdF (poW most) n)) ∧ Below w.heap.size w w' := by
  have hmf : ∀ (fn : Fn) (first cap : Array Value) (w : World), (Instr.makeFunc fn first cap).run Try.prog w = .ok (.func fn first cap) w := fun _ _ _ _ => rfl
  have xR := nw_heap w (.cells #[.int .i64 q0, .slice s0 s1 s2, .int .i64 q2, .int .i64 q3, .slice t0 t1 t2] 27)
  have bR : Below w.heap.size w (w.alloc (.cells #[.int .i64 q0, .slice s0 s1 s2, .int .i64 q2, .int .i64 q3, .slice t0 t1 t2] 27)) := (Below.refl _ _).alloc (Nat.le_refl _) _
  have zR := sza w (.cells #[.int .i64 q0, .slice s0 s1 s2, .int .i64 q2, .int .i64 q3, .slice t0 t1 t2] 27)
  have hT := tra_box (h.fro (fun _ q => q) bR.size (fun g _ hgs => bR.block g hgs)) xR
  obtain ⟨yM, yC, bC⟩ := box2' (w.alloc (.cells #[.int .i64 q0, .slice s0 s1 s2, .int .i64 q2, .int .i64 q3, .slice t0 t1 t2] 27)) (.cells #[.int .i64 most] 3) (.cells #[.func (.func 30) #[] #[.pointer (some ⟨w.heap.size + 1, 0, none⟩)]] 69)
  rw [zR] at yM yC
  have hT3 := hT.below bC
  obtain ⟨W3, hW3⟩ : ∃ W3, ((w.alloc (.cells #[.int .i64 q0, .slice s0 s1 s2, .int .i64 q2, .int .i64 q3, .slice t0 t1 t2] 27)).alloc (.cells #[.int .i64 most] 3)).alloc (.cells #[.func (.func 30) #[] #[.pointer (some ⟨w.heap.size + 1, 0, none⟩)]] 69) = W3 := ⟨_, rfl⟩
  rw [hW3] at yM yC bC hT3
  have hb3 : Below w.heap.size w W3 := bR.trans (bC.mono bR.size)
  have hq := fold_po (root := (w.heap.size, 0)) hT3 hs hwt (wk := poW most) (c := ⟨w.heap.size + 1 + 1, 0, none⟩) (fun W g off n v l hb ht hi hl hw hln => posc_p (M := w.heap.size + 1) ht v l hi h0 h1 (dr_cell (lt_of yM) (by simp [World.cell?, yM]) hb) (dr_cell (lt_of yC) (by simp [World.cell?, yC]) hb) (fun x hx => by
    subst hl
    rw [List.mem_map] at hx
    obtain ⟨y, hy, rfl⟩ := hx
    exact po_bd h0 y) hln) (fun n => (po_bd h0 n).1)
  have HQ : Hid _ := And.intro hq (And.intro hb3 hW3)
  clear hq bR hT hT3 xR yM yC bC h hb3 zR hW3
  have d1 : ¬ most < 0 := by omega
  have d2 : ¬ 1048576 < most := by omega
  go_enter Try.func15, Try.ntmps15
  go_upto_region 4 with fail
  rw [HQ.out.2.2]
  go_wp2_with fail
  refine Calls.mono HQ.out.1 ?_
  rintro e w1 ⟨rfl, hb1⟩
  have H1 : Hid _ := HQ.out.2.1.trans (hb1.mono HQ.out.2.1.size)
  clear hb1
  go_wp2_with fail
  go_ret
  exact ⟨rfl, H1.out⟩
end Go.Proofs.Ythlkbijpphdblaa
namespace Go.Proofs.Ythlkbijpphdblaa
open Go.RowKit
set_option linter.unusedVariables false

def KN : Nd := .nd 4 [] 0 0 [.nd 5 [] 2 3 [.nd 2 [(97, 97)] 0 0 []], .nd 2 [(0, 97), (101, 1114111)] 0 0 []]
theorem kn_par : parS (bl ⟨#[97, 123, 50, 44, 51, 125, 124, 91, 94, 98, 45, 100, 93]⟩) = .ok KN 13 := by rfl
theorem kn_bad : parS (bl ⟨#[97, 41]⟩) = .bad 1 2 := by rfl
theorem kn_po : fdF (poW 100) KN = 4 := by rfl
theorem kn_dp : fdF dpW KN = 3 := by rfl
theorem kn_wt : wtF KN = 8 := by rfl
theorem kn_cn : Cn [((0 : Int), (97 : Int)), (101, 1114111)] := by
  refine ⟨by simp, fun r hr => ?_⟩
  simp only [List.mem_cons, List.not_mem_nil, or_false] at hr
  rcases hr with rfl | rfl <;> simp [MX]
theorem kn_sm : Sml KN := by
  have h0 : ∀ k s a b, Sml (.nd k s a b []) := fun k s a b => ⟨by simp [Nd.kids], fun x hx => by simp [Nd.kids] at hx⟩
  refine ⟨by simp [KN, Nd.kids], fun x hx => ?_⟩
  simp only [KN, Nd.kids, List.mem_cons, List.not_mem_nil, or_false] at hx
  rcases hx with rfl | rfl
  · refine ⟨by simp [Nd.kids], fun y hy => ?_⟩
    simp only [Nd.kids, List.mem_cons, List.not_mem_nil, or_false] at hy
    subst hy
    exact h0 _ _ _ _
  · exact h0 _ _ _ _
theorem kn_a : memB [((0 : Int), (97 : Int)), (101, 1114111)] 97 = true := by rfl
theorem kn_c : memB [((0 : Int), (97 : Int)), (101, 1114111)] 99 = false := by rfl
theorem kn_cells {O : Nat → Prop} {w : World} {q0 : Int} {s0 : Option Addr} {s1 s2 : Nat} {q2 q3 : Int} {t0 : Option Addr} {t1 t2 : Nat} (h : NdV O w KN [.int .i64 q0, .slice s0 s1 s2, .int .i64 q2, .int .i64 q3, .slice t0 t1 t2]) :
    ∃ g off a1 c1, q0 = 4 ∧ t0 = some ⟨g, off, none⟩ ∧ t1 = 2 ∧ 2 ≤ t2 ∧ O g ∧ g < w.heap.size ∧ w.cell? ⟨g, off + 3, none⟩ = some (.int .i64 3) ∧ w.cell? ⟨g, off + 6, none⟩ = some (.slice a1 2 c1) ∧ SlO O w (.slice a1 2 c1) [(0, 97), (101, 1114111)] := by
  unfold KN at h
  cases h with
  | mk k a b s ks vs ad cap css hs hl hc hk hn =>
  rcases hk with hk | ⟨g, off, rfl, hO, hg, ⟨arr, harr⟩, hk⟩
  · simp at hk
  have h0 := hn 0 (by simp)
  have h1 := hn 1 (by simp)
  simp only [List.getElem_cons_zero, List.getElem_cons_succ] at h0 h1
  obtain ⟨c0, e0⟩ : ∃ c0, css.getD 0 [] = c0 := ⟨_, rfl⟩
  obtain ⟨c1, e1⟩ : ∃ c1, css.getD 1 [] = c1 := ⟨_, rfl⟩
  have k0 := hk 0
  have k1 := hk 1
  rw [e0] at h0 k0
  rw [e1] at h1 k1
  cases h0 with
  | mk _ _ _ _ _ vs0 ad0 cap0 css0 hs0 hl0 hc0 hk0 hn0 =>
  cases h1 with
  | mk _ _ _ _ _ vs1 ad1 cap1 css1 hs1 hl1 hc1 hk1 hn1 =>
  have z3 := k0 3 _ rfl
  have z6 := k1 1 _ rfl
  obtain ⟨a1, cp1, rfl, hcp, hsl⟩ := id hs1
  refine ⟨g, off, a1, cp1, rfl, rfl, rfl, by simpa using hc, hO, hg, ?_, ?_, hs1⟩
  · simpa using z3
  · simpa [Nat.add_assoc] using z6
end Go.Proofs.Ythlkbijpphdblaa
