/- Rows that the statement itself makes: what is known of them while it goes on. -/
import Derived.Test.YtpghlafkkcffgaaRowMath
namespace Go.Proofs.Ytpghlafkkcffgaa
open Go.RowKit
set_option linter.unusedVariables false

set_option maxHeartbeats 400000 in
theorem encode_nil (r : Int) (w : World) (h : wid r = 0) : Calls Try.prog 14 #[.int .i32 r] w fun e w' => e = .returned (.slice none 0 0) ∧ w' = w := by
  go_enter Try.func14, Try.ntmps14
  go_wp2_with (go_at_call 30; refine (width_any _ _).mono ?_; rintro e w' ⟨rfl, rfl⟩)
  go_ret
  exact ⟨rfl, rfl⟩
theorem encode_some (r : Int) (w : World) (h : ¬ wid r = 0) : Calls Try.prog 14 #[.int .i32 r] w fun e w' =>
    ∃ b o, e = .returned (.slice (some ⟨b, o, none⟩) (enc r).length (enc r).length) ∧ Bts w' (some ⟨b, o, none⟩) (enc r) ∧ Below w.heap.size w w' := by
  refine (encode_any r w).mono ?_
  rintro e w' ⟨a, rfl, hb, hbl, hn⟩
  have hl := enc_len r
  rcases hb.2 with h0 | ⟨b, o, rfl, _⟩
  · rw [h0] at hl; simp at hl; omega
  · exact ⟨b, o, rfl, hb, hbl⟩

theorem news_at {w : World} {b o : Nat} {l : List Int} (h : Bts w (some ⟨b, o, none⟩) l) :
    ∀ j u, (l.map (Value.int .u8))[j]? = some u → w.cell? ((⟨b, o, none⟩ : Addr).add j) = some u := by
  intro j u hj
  rw [List.getElem?_map] at hj
  have hjl : j < l.length := by
    rcases Nat.lt_or_ge j l.length with h | h
    · exact h
    · rw [List.getElem?_eq_none h] at hj; simp at hj
  rcases h.2 with rfl | ⟨b', o', he, hc⟩
  · simp at hjl
  · simp at he
    obtain ⟨rfl, rfl⟩ := he
    rw [addr_add, hc j hjl]
    rw [List.getElem?_eq_getElem hjl] at hj
    simp at hj
    rw [← hj]
    simp [List.getD_eq_getElem?_getD, hjl]
theorem own_ne {w : World} {b1 b2 n1 n2 : Nat} {e1 e2 : TypeId} {v1 v2 : Value} {x1 x2 : List Value} (h1 : w.ownsRow b1 e1 1 v1 n1 x1) (h2 : w.ownsRow b2 e2 1 v2 n2 x2) (he : e1 ≠ e2) :
    v1.ownBlock = none ∨ v1.ownBlock ≠ v2.ownBlock := by
  rcases h1.2 with ⟨rfl, _⟩ | ⟨g1, c1, cur1, rfl, _, hg1, _⟩
  · exact .inl rfl
  · rcases h2.2 with ⟨rfl, _⟩ | ⟨g2, c2, cur2, rfl, _, hg2, _⟩
    · exact .inr (by simp [Value.ownBlock])
    · refine .inr fun h => ?_
      simp [Value.ownBlock] at h
      subst h
      rw [hg1] at hg2
      simp at hg2
      exact he hg2.2
theorem below_grown {w w' : World} (h : Below w.heap.size w w') : w.grownBy w' none := ⟨h.os, h.tape, h.output, h.size, fun k hk _ => h.block k hk⟩
theorem own_below {w w' : World} {b n : Nat} {e : TypeId} {v : Value} {x : List Value} (h : w.ownsRow b e 1 v n x) (hb : Below w.heap.size w w') : w'.ownsRow b e 1 v n x := by
  refine h.kept (below_grown hb) ?_
  rcases h.2 with ⟨rfl, _⟩ | ⟨g1, c1, cur1, rfl, _⟩
  · exact .inl rfl
  · exact .inr (by simp [Value.ownBlock])
theorem own_any {w : World} {base n : Nat} {v : Value} {l : List Int} (h : w.ownsRow base 5 1 v n (l.map (Value.int .u8))) (hb : ∀ i, 0 ≤ l.getD i 0 ∧ l.getD i 0 < 256) :
    ∃ a cap, v = .slice a l.length cap ∧ l.length ≤ cap ∧ cap ≤ maxLen ∧ Bts w a l ∧ (a = none → l = [] ∧ cap = 0) ∧ (0 < l.length → ∃ g, a = some ⟨g, 0, none⟩) := by
  by_cases h0 : 0 < l.length
  · obtain ⟨g, cap, rfl, h1, h2, h3⟩ := own_slice h h0 hb
    exact ⟨_, _, rfl, h1, h2, h3, fun h => (by cases h), fun _ => ⟨g, rfl⟩⟩
  · have hl : l = [] := List.eq_nil_of_length_eq_zero (by omega)
    subst hl
    have hn : n = 0 := by have := h.1; simp at this; omega
    subst hn
    rcases h.2 with ⟨rfl, _⟩ | ⟨g, cap, cur, rfl, hbg, hg, hnc, hcm, hcs, htake⟩
    · exact ⟨none, 0, rfl, Nat.le_refl _, Nat.zero_le _, ⟨bd_nil, .inl rfl⟩, fun _ => ⟨rfl, rfl⟩, fun h => absurd h (by simp)⟩
    · exact ⟨_, cap, rfl, hnc, hcm, ⟨bd_nil, .inl rfl⟩, fun h => (by cases h), fun _ => ⟨g, rfl⟩⟩
theorem own_i32 {w : World} {base n : Nat} {v : Value} {l : List Int} (h : w.ownsRow base 21 1 v n (l.map (Value.int .i32))) :
    ∃ a cap, v = .slice a l.length cap ∧ cap ≤ maxLen ∧ (0 < l.length → ∃ g, a = some ⟨g, 0, none⟩ ∧ ∀ i, i < l.length → w.cell? ⟨g, i, none⟩ = some (.int .i32 (l.getD i 0))) := by
  have hn : n = l.length := by have := h.1; simp at this; omega
  subst hn
  rcases h.2 with ⟨rfl, h0⟩ | ⟨g, cap, cur, rfl, hbg, hg, hnc, hcm, hcs, htake⟩
  · exact ⟨none, 0, by rw [h0], Nat.zero_le _, fun h => by omega⟩
  · refine ⟨_, cap, rfl, hcm, fun _ => ⟨g, rfl, fun i hi => ?_⟩⟩
    have := h.cells (g := g) rfl i (.int .i32 (l.getD i 0)) (by simp [List.getD_eq_getElem?_getD, hi])
    rw [addr_add, Nat.zero_add] at this
    exact this
theorem info21 : (Try.prog.info? 21).map (fun i => (i.zero, i.size, i.bytes)) = some (some (.int .i32 0), 1, 4) := by kernel_rfl
theorem take_snoc (l : List Int) (k : Nat) (h : k < l.length) : l.take (k + 1) = l.take k ++ [l.getD k 0] := by
  rw [List.take_succ_eq_append_getElem h]
  simp [List.getD_eq_getElem?_getD, h]
theorem encs_snoc (l : List Int) (k : Nat) (h : k < l.length) : encs (l.take (k + 1)) = encs (l.take k) ++ enc (l.getD k 0) := by
  rw [take_snoc l k h, encs_app]
  simp [encs]
theorem wants_snoc (l : List Int) (k : Nat) (h : k < l.length) : wants (l.take (k + 1)) = wants (l.take k) ++ wants [l.getD k 0] := by
  rw [take_snoc l k h, wants_app]

def Rel1 (w : World) (l : List Int) (v3 v4 v5 i : Value) (wr : World) : Prop :=
  ∃ k : Nat, k ≤ l.length ∧ i = .int .i64 k ∧ v4 = .int .i64 (wants (l.take k)).length ∧ wr.ownsRow w.heap.size 5 1 v3 (encs (l.take k)).length ((encs (l.take k)).map (Value.int .u8)) ∧
    wr.ownsRow w.heap.size 21 1 v5 (wants (l.take k)).length ((wants (l.take k)).map (Value.int .i32)) ∧ Below w.heap.size w wr
end Go.Proofs.Ytpghlafkkcffgaa
