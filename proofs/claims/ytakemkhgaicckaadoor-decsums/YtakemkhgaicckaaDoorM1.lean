/- Helpers of the laws' walks. -/
import Derived.Test.YtakemkhgaicckaaDoorL1
namespace Go.Proofs.YtakemkhgaicckaaDoor
open Go.RowKit
set_option linter.unusedVariables false

theorem tx_dg {n : Nm} (h : CN n) : ∀ d ∈ txS n, 0 ≤ d ∧ d < 256 := by
  intro d hd
  unfold txS at hd
  simp only [List.mem_append, List.mem_map] at hd
  rcases hd with hd | ⟨x, hx, rfl⟩ | hd
  · split at hd <;> simp at hd <;> omega
  · have := h.1.dg x (List.mem_of_mem_take hx); omega
  · split at hd
    · simp at hd
    · simp only [List.mem_cons, List.mem_map] at hd
      rcases hd with rfl | ⟨x, hx, rfl⟩
      · omega
      · have := h.1.dg x (List.mem_of_mem_drop hx); omega
theorem par_err {l : List Int} {x : Int} (h : parS l = .error x) : x = 2 ∨ x = 3 := by
  unfold parS at h
  split at h
  · simp at h; omega
  · split at h
    · simp at h; omega
    · split at h
      · simp at h; omega
      · simp at h
theorem ad_ok {a b : Nm} (ha : CN a) (hb : CN b) (h1 : a.2.1.length ≤ 1300) (h2 : b.2.1.length ≤ 1300) : adS a b = .ok (smS a b) ∧ (smS a b).2.1.length ≤ 2602 := by
  have h := (sm_ok ha hb).2.2.2
  have la := ha.1.len
  have lb := hb.1.len
  have hx : hiX a b ≤ 1300 := by unfold hiX; omega
  have hs : hiS a b ≤ 1300 := by unfold hiS; omega
  refine ⟨?_, by omega⟩
  unfold adS
  rw [if_neg (by omega)]
theorem add_n (P : Prg) {w : World} {v v' : Value} {a b : Nm} (ha : NmR w v a) (hb : NmR w v' b) (h1 : a.2.1.length ≤ 1300) (h2 : b.2.1.length ≤ 1300) : Calls Tryd.prog 10 #[nmV a.1 v a.2.2, nmV b.1 v' b.2.2] w fun e w' => ∃ ad c, e = .returned (.tuple #[nmV (smS a b).1 (.slice ad (smS a b).2.1.length c) (smS a b).2.2, .int .i64 0]) ∧ NmR w' (.slice ad (smS a b).2.1.length c) (smS a b) ∧ Below w.heap.size w w' := by
  obtain ⟨q1, q2⟩ := ad_ok ha.cn hb.cn h1 h2
  exact Calls.mono (P.add ha hb) (fun e w' h => h.ok ha.cn hb.cn q1 (by omega))
theorem right_n (P : Prg) {w : World} {v : Value} {n : Nm} (h : NmR w v n) (hl : n.2.1.length ≤ 4096) : Calls Tryd.prog 18 #[nmV n.1 v n.2.2] w fun e w' => e = .returned (.bool true) ∧ Below w.heap.size w w' := by
  have h1 := h.cn.1.len
  have := P.right h.bt n.1 n.2.2 (by omega) (by omega)
  rw [rg_ok h.cn hl] at this
  exact this
theorem lt_alloc (w : World) (o : Obj) : w.heap.size < (w.alloc o).heap.size := by rw [sza]; omega
theorem le_alloc {N : Nat} {w : World} (h : N ≤ w.heap.size) (o : Obj) : N ≤ (w.alloc o).heap.size := by rw [sza]; omega
/-- Digits don't lie in a number's box. -/
theorem BtR.ne {w : World} {v : Value} {l : List Int} {T : Nat} {b : Bool} {sl : Value} {z : Int} {t : TypeId} {a : Option Addr} {n c : Nat} (h : BtR w v l) (hT : w.heap[T]? = some (.cells #[.bool b, .slice a n c, .int .i64 z] t (0, 0))) : ∀ k, v.ownBlock = some k → l ≠ [] → k ≠ T := by
  obtain ⟨a1, cap, rfl, h1, h2, h3, h4⟩ := h
  intro k hk hn e
  rcases h4 with h4 | ⟨g, o, rfl, h5, h6⟩
  · exact hn h4
  · simp [Value.ownBlock] at hk
    subst hk
    subst e
    have hc := h6 0 (List.length_pos_iff.2 hn)
    simp only [World.cell?, hT] at hc
    rcases o with _ | _ | _ | o <;> simp at hc
/-- A number stored into a box. -/
theorem BxN.stored {w : World} {T : Nat} {t : TypeId} {n : Nm} {a a0 : Option Addr} {c n0 c0 : Nat} {b0 : Bool} {z0 : Int} (h : NmR w (.slice a n.2.1.length c) n) (hT : w.heap[T]? = some (.cells #[.bool b0, .slice a0 n0 c0, .int .i64 z0] t (0, 0))) (N : Nat) (hN : N ≤ T) :
    BxN (((w.setCell ⟨T, 0, none⟩ (.bool n.1)).setCell ⟨T, 1, none⟩ (.slice a n.2.1.length c)).setCell ⟨T, 2, none⟩ (.int .i64 n.2.2)) T t n a c ∧ Below N w (((w.setCell ⟨T, 0, none⟩ (.bool n.1)).setCell ⟨T, 1, none⟩ (.slice a n.2.1.length c)).setCell ⟨T, 2, none⟩ (.int .i64 n.2.2)) := by
  obtain ⟨q1, q2, q3, q4⟩ := set3 (Below.refl N w) hN hT (.bool n.1) (.slice a n.2.1.length c) (.int .i64 n.2.2)
  exact ⟨⟨⟨h.bt.kept (Nat.le_of_eq q4.symm) q3 (h.bt.ne (sl := .bool true) hT), h.cn, h.le⟩, q1⟩, q2⟩
/-- A text parsed, either way. -/
theorem parse_n (P : Prg) (s : ByteArray) (w : World) (hs : s.size ≤ 600) : Calls Tryd.prog 11 #[.string s] w fun e w' => Below w.heap.size w w' ∧ ((∃ n a c, parS (bl s) = .ok n ∧ n.2.1.length ≤ 600 ∧ e = .returned (.tuple #[nmV n.1 (.slice a n.2.1.length c) n.2.2, .int .i64 0]) ∧ NmR w' (.slice a n.2.1.length c) n) ∨ (∃ x a c, (x = 2 ∨ x = 3) ∧ parS (bl s) = .error x ∧ e = .returned (.tuple #[nmV false (.slice a 0 c) 0, .int .i64 x]) ∧ BtR w' (.slice a 0 c) [])) := by
  refine Calls.mono (P.parse s w (by unfold maxLen; omega)) ?_
  intro e w' h
  cases hp : parS (bl s) with
  | error x =>
    obtain ⟨a, c, h1, h2, h3⟩ := h.no hp
    exact ⟨h3, .inr ⟨x, a, c, par_err hp, rfl, h1, h2⟩⟩
  | ok n =>
    have hl : n.2.1.length ≤ 600 := by
      have h2 := (par_ok hp).2.1
      rw [bl_len] at h2
      omega
    obtain ⟨a, c, h1, h2, h3⟩ := h.ok hp (by omega)
    exact ⟨h3, .inl ⟨n, a, c, rfl, hl, h1, h2⟩⟩
theorem parse_any (P : Prg) (s : ByteArray) (w : World) (hs : s.size ≤ 600) : Calls Tryd.prog 11 #[.string s] w fun e w' => ∃ b a n c z x, e = .returned (.tuple #[nmV b (.slice a n c) z, .int .i64 x]) ∧ Below w.heap.size w w' := by
  refine Calls.mono (parse_n P s w hs) ?_
  rintro e w' ⟨hb, ⟨n, a, c, _, _, rfl, _⟩ | ⟨x, a, c, _, _, rfl, _⟩⟩
  · exact ⟨_, _, _, _, _, _, rfl, hb⟩
  · exact ⟨_, _, _, _, _, _, rfl, hb⟩
theorem cmp_as (P : Prg) {w : World} {v v' : Value} {a b : Nm} (ha : NmR w v a) (hb : NmR w v' b) {k : Int} (h : cmpS a b = k) : Calls Tryd.prog 9 #[nmV a.1 v a.2.2, nmV b.1 v' b.2.2] w fun e w' => e = .returned (.int .i64 k) ∧ Below w.heap.size w w' := by
  rw [← h]
  exact P.cmp ha hb
theorem sm_len {a b : Nm} (ha : CN a) (hb : CN b) {N : Nat} (h1 : a.2.1.length ≤ N) (h2 : b.2.1.length ≤ N) : (smS a b).2.1.length ≤ 2 * N + 1 := by
  have h := (sm_ok ha hb).2.2.2
  have la := ha.1.len
  have lb := hb.1.len
  have hx : hiX a b ≤ N := by unfold hiX; omega
  have hs' : hiS a b ≤ N := by unfold hiS; omega
  omega
end Go.Proofs.YtakemkhgaicckaaDoor
