/- Rows of events, at any offset of their block; append to them. -/
import Derived.Test.YtjcgnbmpnaapdaaDoorNam
import Derived.Deep.RegionLawGrows
namespace Go.Proofs.YtjcgnbmpnaapdaaDoor
open Go.RowKit
set_option linter.unusedVariables false

def RR (B : Nat) (w : World) (v : Value) (n : Nat) (xs : List Value) : Prop :=
  (v = .slice none 0 0 ∧ n = 0 ∧ xs = []) ∨
  ∃ g off cap, v = .slice (some ⟨g, off, none⟩) n cap ∧ B ≤ g ∧ (∃ cur, w.heap[g]? = some (.cells cur 35 (0, 0)) ∧ off + cap * 5 ≤ cur.size) ∧ n ≤ cap ∧ cap ≤ maxLen ∧ xs.length = n * 5 ∧ ∀ j, j < n * 5 → w.cell? ⟨g, off + j, none⟩ = xs[j]?
theorem RR.len {B n : Nat} {w : World} {v : Value} {xs : List Value} (h : RR B w v n xs) : xs.length = n * 5 := by
  rcases h with ⟨_, rfl, rfl⟩ | ⟨g, off, cap, _, _, _, _, _, h, _⟩
  · rfl
  · exact h
theorem RR.kept {B n : Nat} {w w' : World} {v : Value} {xs : List Value} {row : Option Nat} (h : RR B w v n xs) (hg : w.grownBy w' row) (hne : v.ownBlock = none ∨ v.ownBlock ≠ row) : RR B w' v n xs := by
  rcases h with h0 | ⟨g, off, cap, rfl, hB, ⟨cur, hh, hs⟩, h1, h2, h3, h4⟩
  · exact .inl h0
  · have hb : w'.heap[g]? = w.heap[g]? := hg.block g (Array.getElem?_eq_some_iff.1 hh).1 (by simpa [Value.ownBlock] using hne)
    exact .inr ⟨g, off, cap, rfl, hB, ⟨cur, hb.trans hh, hs⟩, h1, h2, h3, fun j hj => (World.cell?_of_block (a := ⟨g, off + j, none⟩) hb).trans (h4 j hj)⟩
theorem RR.lt {B n : Nat} {w : World} {v : Value} {xs : List Value} (h : RR B w v n xs) : ∀ k, v.ownBlock = some k → B ≤ k ∧ k < w.heap.size := by
  intro k hk
  rcases h with ⟨rfl, _⟩ | ⟨g, off, cap, rfl, hB, ⟨cur, hh, hs⟩, _⟩
  · simp [Value.ownBlock] at hk
  · simp [Value.ownBlock] at hk
    subst hk
    exact ⟨hB, (Array.getElem?_eq_some_iff.1 hh).1⟩
theorem RR.of_own {B B' n : Nat} {w : World} {v : Value} {xs : List Value} (h : w.ownsRow B' 35 5 v n xs) (hB : B ≤ B') : RR B w v n xs := by
  rcases h.2 with ⟨rfl, rfl⟩ | ⟨g, cap, cur, rfl, hbg, hg, hnc, hcm, hcs, htake⟩
  · exact .inl ⟨rfl, rfl, List.eq_nil_of_length_eq_zero (by have := h.1; omega)⟩
  · refine .inr ⟨g, 0, cap, rfl, by omega, ⟨cur, hg, by omega⟩, hnc, hcm, h.1, fun j hj => ?_⟩
    rw [Nat.zero_add]
    simp [World.cell?, hg]
    rw [← htake, List.getElem?_take, if_pos hj]
    simp
theorem setCells_blk {g : Nat} {t : TypeId} : ∀ (vs : List Value) (o : Nat) (w : World) (cur : Array Value), w.heap[g]? = some (.cells cur t (0, 0)) → ∃ cur', (w.setCells g o vs).heap[g]? = some (.cells cur' t (0, 0)) ∧ cur'.size = cur.size
  | [], o, w, cur, h => ⟨cur, h, rfl⟩
  | v :: vs, o, w, cur, h => by
    obtain ⟨c2, h2, h3⟩ := setCells_blk vs (o + 1) (w.setCell ⟨g, o, none⟩ v) _ (Bk.set (i := o) h v)
    exact ⟨c2, h2, by rw [h3]; simp⟩
theorem setCells_grown {g : Nat} : ∀ (vs : List Value) (o : Nat) (w : World), w.grownBy (w.setCells g o vs) (some g)
  | [], o, w => World.grownBy.refl _ _
  | v :: vs, o, w => grownBy_trans (grownBy_set w g o v) (setCells_grown vs (o + 1) _)
theorem info35 : (Tryd.prog.info? 35).map (fun i => (i.zero, i.size, i.bytes)) = some (some (.agg #[.int .i64 0, .int .i64 0, .string ⟨#[]⟩, .string ⟨#[]⟩, .slice none 0 0]), 5, 72) := by kernel_rfl
theorem info35p : ∃ i, Tryd.prog.info? 35 = some i ∧ i.zero = some (.agg #[.int .i64 0, .int .i64 0, .string ⟨#[]⟩, .string ⟨#[]⟩, .slice none 0 0]) ∧ i.size = 5 ∧ i.bytes = 72 := by
  have := info35
  cases h : Tryd.prog.info? 35 with
  | none => rw [h] at this; simp at this
  | some i => rw [h] at this; simp at this; exact ⟨i, rfl, this.1, this.2.1, this.2.2⟩

/-- append to a row of events. -/
theorem run_app {B n : Nat} {w : World} {v : Value} {xs : List Value} (h : RR B w v n xs) (ty : TypeId) (ad : Addr) (m c : Nat) (news : List Value) (hl : news.length = m * 5) (hnews : ∀ j u, news[j]? = some u → w.cell? (ad.add j) = some u)
    (h1 : ∀ u ∈ news, u.oneCell' = true) (hm : 0 < m) (hb : n + m ≤ 1000000) (hB : B ≤ w.heap.size) :
    ∃ v' w', (Builtin.append_ #[27, 27] ty #[v, .slice (some ad) m c]).run Tryd.prog w = .ok v' w' ∧ RR B w' v' (n + m) (xs ++ news) ∧ w.grownBy w' v.ownBlock ∧ (∃ a cap, v' = .slice (some a) (n + m) cap) ∧ (∀ k, v'.ownBlock = some k → v.ownBlock = some k ∨ w.heap.size ≤ k) := by
  obtain ⟨i, hi, hz, hs, hby⟩ := info35p
  have hml : n + m ≤ maxLen := by unfold maxLen; omega
  rcases h with ⟨rfl, rfl, rfl⟩ | ⟨g, off, cap, rfl, hBg, ⟨cur, hh, hsz⟩, h2, h3, h4, h5⟩
  · obtain ⟨v', w', hr, r1, r2, r3⟩ := run_append_own (P := Tryd.prog) w w.heap.size 27 ty 35 i _ 5 72 Tryd.underlying27 hi hz hs hby rfl (by decide) (.slice none 0 0) 0 [] (World.ownsRow_nil w _ 35 5) ad m c news hl hnews h1 hml (by omega) (Nat.le_refl _)
    refine ⟨v', w', hr, RR.of_own r1 hB, r2, ?_, fun k hk => .inr (r1.lt k hk).1⟩
    obtain ⟨g, cap, hv, _⟩ := World.ownsRow.form r1 (by omega)
    exact ⟨_, _, hv⟩
  · by_cases hroom : n + m ≤ cap
    · have hcell : ∀ j, j < news.length → (w.cell? ⟨g, off + n * i.size + j, none⟩).isSome = true := by
        intro j hj
        rw [hs]
        simp [World.cell?, hh]
        omega
      have hfr : ∀ j, j < news.length → w.frozen? ⟨g, off + n * i.size + j, none⟩ = false := fun j hj => by simp [World.frozen?, hh]
      have hr := run_append_room_cells (P := Tryd.prog) w 27 ty 35 i Tryd.underlying27 hi g off n cap ad m c news (by rw [hs]; exact hl) hnews h1 hroom hcell hfr
      obtain ⟨cur', hh', hsz'⟩ := setCells_blk news (off + n * i.size) w cur hh
      refine ⟨_, _, hr, .inr ⟨g, off, cap, rfl, hBg, ⟨cur', hh', by omega⟩, by omega, h3, by rw [List.length_append, h4, hl]; omega, fun j hj => ?_⟩, setCells_grown news _ w, ⟨_, _, rfl⟩, fun k hk => .inl hk⟩
      rw [hs]
      rcases Nat.lt_or_ge j (n * 5) with hjn | hjn
      · rw [World.cell?_setCells_out _ _ _ _ _ (fun _ _ => .inl (by simp; omega)), h5 j hjn, List.getElem?_append_left (by omega)]
      · have e : off + j = off + n * 5 + (j - n * 5) := by omega
        have hjl : j - n * 5 < news.length := by omega
        rw [e, World.cell?_setCells_in g news (off + n * 5) w (by rw [← hs]; exact hcell) (j - n * 5) hjl, List.getElem?_append_right (by omega), h4, List.getElem?_eq_getElem hjl]
    · obtain ⟨v', w', hr, r1, r2⟩ := run_append_arg_grows (P := Tryd.prog) w 27 ty 35 i _ 5 72 Tryd.underlying27 hi hz hs hby rfl (by decide) ⟨g, off, none⟩ n cap xs h4 (fun j u hu => by
          have hj : j < n * 5 := by
            rw [← h4]
            exact (List.getElem?_eq_some_iff.1 hu).1
          rw [addr_add, h5 j hj]; exact hu) ad m c news hl hnews (by omega) hml (by omega)
      refine ⟨v', w', hr, RR.of_own r1 hB, ⟨r2.os, r2.tape, r2.output, r2.size, fun k hk _ => r2.block k hk (by simp)⟩, ?_, fun k hk => .inr (r1.lt k hk).1⟩
      obtain ⟨g, cap, hv, _⟩ := World.ownsRow.form r1 (by omega)
      exact ⟨_, _, hv⟩

theorem wp_app {B n : Nat} {w : World} {v : Value} {xs : List Value} {o : Oper} {a : Act} {K : Act → World → Prop} {Q : Exit → Act → World → Prop} (s x : Operand)
    (ho : o.op = .call { callee := .builtin .append, args := #[s, x], argTypes := #[27, 27] }) (hr : RR B w v n xs) (hs : a.eval s = v) (ad : Addr) (m c : Nat) (news : List Value) (hx : a.eval x = .slice (some ad) m c)
    (hl : news.length = m * 5) (hnews : ∀ j u, news[j]? = some u → w.cell? (ad.add j) = some u) (h1 : ∀ u ∈ news, u.oneCell' = true) (hm : 0 < m) (hb : n + m ≤ 1000000) (hB : B ≤ w.heap.size)
    (h : ∀ a' cap w', RR B w' (.slice (some a') (n + m) cap) (n + m) (xs ++ news) → w.grownBy w' v.ownBlock → (∀ k, (Value.slice (some a') (n + m) cap).ownBlock = some k → v.ownBlock = some k ∨ w.heap.size ≤ k) → K (a.put o.dst (.slice (some a') (n + m) cap)) w') : o.wp Tryd.prog a w K Q := by
  obtain ⟨v', w', hrun, h2, h3, ⟨a', cap, rfl⟩, h5⟩ := run_app hr o.type ad m c news hl hnews h1 hm hb hB
  unfold Oper.wp execOp
  simp only [ho, resolve, invoke, builtin, Sem.run_bind, Sem.run_pure, Result.andThen_ok, List.map_toArray, List.map_cons, List.map_nil, hs, hx, hrun]
  exact h a' cap w' h2 h3 h5
theorem wpList_app {B n : Nat} {w : World} {v : Value} {xs : List Value} {ops : Array Oper} {rest : List Oper} {o : Oper} {a : Act} {Q : Exit → Act → World → Prop} (hgd : o.guard = none) (s x : Operand)
    (ho : o.op = .call { callee := .builtin .append, args := #[s, x], argTypes := #[27, 27] }) (hr : RR B w v n xs) (hs : a.eval s = v) (ad : Addr) (m c : Nat) (news : List Value) (hx : a.eval x = .slice (some ad) m c)
    (hl : news.length = m * 5) (hnews : ∀ j u, news[j]? = some u → w.cell? (ad.add j) = some u) (h1 : ∀ u ∈ news, u.oneCell' = true) (hm : 0 < m) (hb : n + m ≤ 1000000) (hB : B ≤ w.heap.size)
    (h : ∀ a' cap w', RR B w' (.slice (some a') (n + m) cap) (n + m) (xs ++ news) → w.grownBy w' v.ownBlock → (∀ k, (Value.slice (some a') (n + m) cap).ownBlock = some k → v.ownBlock = some k ∨ w.heap.size ≤ k) → wpList Tryd.prog ops Q rest (a.put o.dst (.slice (some a') (n + m) cap)) w') : wpList Tryd.prog ops Q (o :: rest) a w :=
  wpList_plain hgd fun _ hK => wp_app s x ho hr hs ad m c news hx hl hnews h1 hm hb hB fun a' cap w' h2 h3 h4 => hK _ _ (h a' cap w' h2 h3 h4)
theorem step_app {B n : Nat} {w : World} {v : Value} {xs : List Value} {ops : Array Oper} {o : Oper} {a : Act} {K : Act → World → Prop} {Q : Exit → Act → World → Prop} {E : Prop} (hgd : o.guard = none) (s x : Operand)
    (ho : o.op = .call { callee := .builtin .append, args := #[s, x], argTypes := #[27, 27] }) (hr : RR B w v n xs) (hs : a.eval s = v) (ad : Addr) (m c : Nat) (news : List Value) (hx : a.eval x = .slice (some ad) m c)
    (hl : news.length = m * 5) (hnews : ∀ j u, news[j]? = some u → w.cell? (ad.add j) = some u) (h1 : ∀ u ∈ news, u.oneCell' = true) (hm : 0 < m) (hb : n + m ≤ 1000000) (hB : B ≤ w.heap.size)
    (h : ∀ a' cap w', RR B w' (.slice (some a') (n + m) cap) (n + m) (xs ++ news) → w.grownBy w' v.ownBlock → (∀ k, (Value.slice (some a') (n + m) cap).ownBlock = some k → v.ownBlock = some k ∨ w.heap.size ≤ k) → K (a.put o.dst (.slice (some a') (n + m) cap)) w') :
    if Region.wanted o (yielded ops a.tmps) = true then Oper.wp Tryd.prog o a w K Q else E := by
  have hw : Region.wanted o (yielded ops a.tmps) = true := by simp [Region.wanted, hgd]
  rw [if_pos hw]
  exact wp_app s x ho hr hs ad m c news hx hl hnews h1 hm hb hB h
end Go.Proofs.YtjcgnbmpnaapdaaDoor
