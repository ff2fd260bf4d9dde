/- The laws' known, plain. -/
import Derived.Test.YthlkbijpphdblaaD9
namespace Go.Proofs.Ythlkbijpphdblaa
open Go.RowKit
set_option linter.unusedVariables false

def KN : Nd := .nd 4 [] 0 0 [.nd 5 [] 2 3 [.nd 2 [(97, 97)] 0 0 []], .nd 2 [(0, 97), (101, 1114111)] 0 0 []]
theorem kn_par : parS (bl ⟨#[97, 123, 50, 44, 51, 125, 124, 91, 94, 98, 45, 100, 93]⟩) = .ok KN 13 := by rfl
theorem kn_bad : parS (bl ⟨#[97, 41]⟩) = .bad 1 2 := by rfl
theorem kn_po : fdF (poW 100) KN = 4 := by rfl
theorem kn_dp : fdF dpW KN = 3 := by rfl
theorem kn_wt : wtF KN = 8 := by rfl
theorem kn_cn : Cn [((0 : Int), (97 : Int)), (101, 1114111)] := by
  refine ⟨by simp, fun r hr => ?_⟩
  simp only [List.mem_cons, List.not_mem_nil, or_false] at hr
  rcases hr with rfl | rfl <;> simp [MX]
theorem kn_sm : Sml KN := by
  have h0 : ∀ k s a b, Sml (.nd k s a b []) := fun k s a b => ⟨by simp [Nd.kids], fun x hx => by simp [Nd.kids] at hx⟩
  refine ⟨by simp [KN, Nd.kids], fun x hx => ?_⟩
  simp only [KN, Nd.kids, List.mem_cons, List.not_mem_nil, or_false] at hx
  rcases hx with rfl | rfl
  · refine ⟨by simp [Nd.kids], fun y hy => ?_⟩
    simp only [Nd.kids, List.mem_cons, List.not_mem_nil, or_false] at hy
    subst hy
    exact h0 _ _ _ _
  · exact h0 _ _ _ _
theorem kn_a : memB [((0 : Int), (97 : Int)), (101, 1114111)] 97 = true := by rfl
theorem kn_c : memB [((0 : Int), (97 : Int)), (101, 1114111)] 99 = false := by rfl
theorem kn_cells {O : Nat → Prop} {w : World} {q0 : Int} {s0 : Option Addr} {s1 s2 : Nat} {q2 q3 : Int} {t0 : Option Addr} {t1 t2 : Nat} (h : NdV O w KN [.int .i64 q0, .slice s0 s1 s2, .int .i64 q2, .int .i64 q3, .slice t0 t1 t2]) :
    ∃ g off a1 c1, q0 = 4 ∧ t0 = some ⟨g, off, none⟩ ∧ t1 = 2 ∧ 2 ≤ t2 ∧ O g ∧ g < w.heap.size ∧ w.cell? ⟨g, off + 3, none⟩ = some (.int .i64 3) ∧ w.cell? ⟨g, off + 6, none⟩ = some (.slice a1 2 c1) ∧ SlO O w (.slice a1 2 c1) [(0, 97), (101, 1114111)] := by
  unfold KN at h
  cases h with
  | mk k a b s ks vs ad cap css hs hl hc hk hn =>
  rcases hk with hk | ⟨g, off, rfl, hO, hg, ⟨arr, harr⟩, hk⟩
  · simp at hk
  have h0 := hn 0 (by simp)
  have h1 := hn 1 (by simp)
  simp only [List.getElem_cons_zero, List.getElem_cons_succ] at h0 h1
  obtain ⟨c0, e0⟩ : ∃ c0, css.getD 0 [] = c0 := ⟨_, rfl⟩
  obtain ⟨c1, e1⟩ : ∃ c1, css.getD 1 [] = c1 := ⟨_, rfl⟩
  have k0 := hk 0
  have k1 := hk 1
  rw [e0] at h0 k0
  rw [e1] at h1 k1
  cases h0 with
  | mk _ _ _ _ _ vs0 ad0 cap0 css0 hs0 hl0 hc0 hk0 hn0 =>
  cases h1 with
  | mk _ _ _ _ _ vs1 ad1 cap1 css1 hs1 hl1 hc1 hk1 hn1 =>
  have z3 := k0 3 _ rfl
  have z6 := k1 1 _ rfl
  obtain ⟨a1, cp1, rfl, hcp, hsl⟩ := id hs1
  refine ⟨g, off, a1, cp1, rfl, rfl, rfl, by simpa using hc, hO, hg, ?_, ?_, hs1⟩
  · simpa using z3
  · simpa [Nat.add_assoc] using z6
end Go.Proofs.Ythlkbijpphdblaa
