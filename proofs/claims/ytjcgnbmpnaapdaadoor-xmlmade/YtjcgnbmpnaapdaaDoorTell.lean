/- Rows of events, at any offset of their block; append to them. -/
import Derived.Test.YtjcgnbmpnaapdaaDoorNam
import Derived.Deep.RegionLawGrows
namespace Go.Proofs.YtjcgnbmpnaapdaaDoor
open Go.RowKit
set_option linter.unusedVariables false

def RR (B : Nat) (w : World) (v : Value) (n : Nat) (xs : List Value) : Prop :=
  (v = .slice none 0 0 ∧ n = 0 ∧ xs = []) ∨
  ∃ g off cap, v = .slice (some ⟨g, off, none⟩) n cap ∧ B ≤ g ∧ (∃ cur, w.heap[g]? = some (.cells cur 35 (0, 0)) ∧ off + cap * 5 ≤ cur.size) ∧ n ≤ cap ∧ cap ≤ maxLen ∧ xs.length = n * 5 ∧ ∀ j, j < n * 5 → w.cell? ⟨g, off + j, none⟩ = xs[j]?
theorem RR.len {B n : Nat} {w : World} {v : Value} {xs : List Value} (h : RR B w v n xs) : xs.length = n * 5 := by
  rcases h with ⟨_, rfl, rfl⟩ | ⟨g, off, cap, _, _, _, _, _, h, _⟩
  · rfl
  · exact h
theorem RR.kept {B n : Nat} {w w' : World} {v : Value} {xs : List Value} {row : Option Nat} (h : RR B w v n xs) (hg : w.grownBy w' row) (hne : v.ownBlock = none ∨ v.ownBlock ≠ row) : RR B w' v n xs := by
  rcases h with h0 | ⟨g, off, cap, rfl, hB, ⟨cur, hh, hs⟩, h1, h2, h3, h4⟩
  · exact .inl h0
  · have hb : w'.heap[g]? = w.heap[g]? := hg.block g (Array.getElem?_eq_some_iff.1 hh).1 (by simpa [Value.ownBlock] using hne)
    exact .inr ⟨g, off, cap, rfl, hB, ⟨cur, hb.trans hh, hs⟩, h1, h2, h3, fun j hj => (World.cell?_of_block (a := ⟨g, off + j, none⟩) hb).trans (h4 j hj)⟩
theorem RR.lt {B n : Nat} {w : World} {v : Value} {xs : List Value} (h : RR B w v n xs) : ∀ k, v.ownBlock = some k → B ≤ k ∧ k < w.heap.size := by
  intro k hk
  rcases h with ⟨rfl, _⟩ | ⟨g, off, cap, rfl, hB, ⟨cur, hh, hs⟩, _⟩
  · simp [Value.ownBlock] at hk
  · simp [Value.ownBlock] at hk
    subst hk
    exact ⟨hB, (Array.getElem?_eq_some_iff.1 hh).1⟩
theorem RR.of_own {B B' n : Nat} {w : World} {v : Value} {xs : List Value} (h : w.ownsRow B' 35 5 v n xs) (hB : B ≤ B') : RR B w v n xs := by
  rcases h.2 with ⟨rfl, rfl⟩ | ⟨g, cap, cur, rfl, hbg, hg, hnc, hcm, hcs, htake⟩
  · exact .inl ⟨rfl, rfl, List.eq_nil_of_length_eq_zero (by have := h.1; omega)⟩
  · refine .inr ⟨g, 0, cap, rfl, by omega, ⟨cur, hg, by omega⟩, hnc, hcm, h.1, fun j hj => ?_⟩
    rw [Nat.zero_add]
    simp [World.cell?, hg]
    rw [← htake, List.getElem?_take, if_pos hj]
    simp
theorem setCells_blk {g : Nat} {t : TypeId} : ∀ (vs : List Value) (o : Nat) (w : World) (cur : Array Value), w.heap[g]? = some (.cells cur t (0, 0)) → ∃ cur', (w.setCells g o vs).heap[g]? = some (.cells cur' t (0, 0)) ∧ cur'.size = cur.size
  | [], o, w, cur, h => ⟨cur, h, rfl⟩
  | v :: vs, o, w, cur, h => by
    obtain ⟨c2, h2, h3⟩ := setCells_blk vs (o + 1) (w.setCell ⟨g, o, none⟩ v) _ (Bk.set (i := o) h v)
    exact ⟨c2, h2, by rw [h3]; simp⟩
theorem setCells_grown {g : Nat} : ∀ (vs : List Value) (o : Nat) (w : World), w.grownBy (w.setCells g o vs) (some g)
  | [], o, w => World.grownBy.refl _ _
  | v :: vs, o, w => grownBy_trans (grownBy_set w g o v) (setCells_grown vs (o + 1) _)
theorem info35 : (Tryd.prog.info? 35).map (fun i => (i.zero, i.size, i.bytes)) = some (some (.agg #[.int .i64 0, .int .i64 0, .string ⟨#[]⟩, .string ⟨#[]⟩, .slice none 0 0]), 5, 72) := by kernel_rfl
theorem info35p : ∃ i, Tryd.prog.info? 35 = some i ∧ i.zero = some (.agg #[.int .i64 0, .int .i64 0, .string ⟨#[]⟩, .string ⟨#[]⟩, .slice none 0 0]) ∧ i.size = 5 ∧ i.bytes = 72 := by
  have := info35
  cases h : Tryd.prog.info? 35 with
  | none => rw [h] at this; simp at this
  | some i => rw [h] at this; simp at this; exact ⟨i, rfl, this.1, this.2.1, this.2.2⟩

/-- append to a row of events. -/
theorem run_app {B n : Nat} {w : World} {v : Value} {xs : List Value} (h : RR B w v n xs) (ty : TypeId) (ad : Addr) (m c : Nat) (news : List Value) (hl : news.length = m * 5) (hnews : ∀ j u, news[j]? = some u → w.cell? (ad.add j) = some u)
    (h1 : ∀ u ∈ news, u.oneCell' = true) (hm : 0 < m) (hb : n + m ≤ 1000000) (hB : B ≤ w.heap.size) :
    ∃ v' w', (Builtin.append_ #[27, 27] ty #[v, .slice (some ad) m c]).run Tryd.prog w = .ok v' w' ∧ RR B w' v' (n + m) (xs ++ news) ∧ w.grownBy w' v.ownBlock ∧ (∃ a cap, v' = .slice (some a) (n + m) cap) ∧ (∀ k, v'.ownBlock = some k → v.ownBlock = some k ∨ w.heap.size ≤ k) := by
  obtain ⟨i, hi, hz, hs, hby⟩ := info35p
  have hml : n + m ≤ maxLen := by unfold maxLen; omega
  rcases h with ⟨rfl, rfl, rfl⟩ | ⟨g, off, cap, rfl, hBg, ⟨cur, hh, hsz⟩, h2, h3, h4, h5⟩
  · obtain ⟨v', w', hr, r1, r2, r3⟩ := run_append_own (P := Tryd.prog) w w.heap.size 27 ty 35 i _ 5 72 Tryd.underlying27 hi hz hs hby rfl (by decide) (.slice none 0 0) 0 [] (World.ownsRow_nil w _ 35 5) ad m c news hl hnews h1 hml (by omega) (Nat.le_refl _)
    refine ⟨v', w', hr, RR.of_own r1 hB, r2, ?_, fun k hk => .inr (r1.lt k hk).1⟩
    obtain ⟨g, cap, hv, _⟩ := World.ownsRow.form r1 (by omega)
    exact ⟨_, _, hv⟩
  · by_cases hroom : n + m ≤ cap
    · have hcell : ∀ j, j < news.length → (w.cell? ⟨g, off + n * i.size + j, none⟩).isSome = true := by
        intro j hj
        rw [hs]
        simp [World.cell?, hh]
        omega
      have hfr : ∀ j, j < news.length → w.frozen? ⟨g, off + n * i.size + j, none⟩ = false := fun j hj => by simp [World.frozen?, hh]
      have hr := run_append_room_cells (P := Tryd.prog) w 27 ty 35 i Tryd.underlying27 hi g off n cap ad m c news (by rw [hs]; exact hl) hnews h1 hroom hcell hfr
      obtain ⟨cur', hh', hsz'⟩ := setCells_blk news (off + n * i.size) w cur hh
      refine ⟨_, _, hr, .inr ⟨g, off, cap, rfl, hBg, ⟨cur', hh', by omega⟩, by omega, h3, by rw [List.length_append, h4, hl]; omega, fun j hj => ?_⟩, setCells_grown news _ w, ⟨_, _, rfl⟩, fun k hk => .inl hk⟩
      rw [hs]
      rcases Nat.lt_or_ge j (n * 5) with hjn | hjn
      · rw [World.cell?_setCells_out _ _ _ _ _ (fun _ _ => .inl (by simp; omega)), h5 j hjn, List.getElem?_append_left (by omega)]
      · have e : off + j = off + n * 5 + (j - n * 5) := by omega
        have hjl : j - n * 5 < news.length := by omega
        rw [e, World.cell?_setCells_in g news (off + n * 5) w (by rw [← hs]; exact hcell) (j - n * 5) hjl, List.getElem?_append_right (by omega), h4, List.getElem?_eq_getElem hjl]
    · obtain ⟨v', w', hr, r1, r2⟩ := run_append_arg_grows (P := Tryd.prog) w 27 ty 35 i _ 5 72 Tryd.underlying27 hi hz hs hby rfl (by decide) ⟨g, off, none⟩ n cap xs h4 (fun j u hu => by
          have hj : j < n * 5 := by
            rw [← h4]
            exact (List.getElem?_eq_some_iff.1 hu).1
          rw [addr_add, h5 j hj]; exact hu) ad m c news hl hnews (by omega) hml (by omega)
      refine ⟨v', w', hr, RR.of_own r1 hB, ⟨r2.os, r2.tape, r2.output, r2.size, fun k hk _ => r2.block k hk (by simp)⟩, ?_, fun k hk => .inr (r1.lt k hk).1⟩
      obtain ⟨g, cap, hv, _⟩ := World.ownsRow.form r1 (by omega)
      exact ⟨_, _, hv⟩

theorem wp_app {B n : Nat} {w : World} {v : Value} {xs : List Value} {o : Oper} {a : Act} {K : Act → World → Prop} {Q : Exit → Act → World → Prop} (s x : Operand)
    (ho : o.op = .call { callee := .builtin .append, args := #[s, x], argTypes := #[27, 27] }) (hr : RR B w v n xs) (hs : a.eval s = v) (ad : Addr) (m c : Nat) (news : List Value) (hx : a.eval x = .slice (some ad) m c)
    (hl : news.length = m * 5) (hnews : ∀ j u, news[j]? = some u → w.cell? (ad.add j) = some u) (h1 : ∀ u ∈ news, u.oneCell' = true) (hm : 0 < m) (hb : n + m ≤ 1000000) (hB : B ≤ w.heap.size)
    (h : ∀ a' cap w', RR B w' (.slice (some a') (n + m) cap) (n + m) (xs ++ news) → w.grownBy w' v.ownBlock → (∀ k, (Value.slice (some a') (n + m) cap).ownBlock = some k → v.ownBlock = some k ∨ w.heap.size ≤ k) → K (a.put o.dst (.slice (some a') (n + m) cap)) w') : o.wp Tryd.prog a w K Q := by
  obtain ⟨v', w', hrun, h2, h3, ⟨a', cap, rfl⟩, h5⟩ := run_app hr o.type ad m c news hl hnews h1 hm hb hB
  unfold Oper.wp execOp
  simp only [ho, resolve, invoke, builtin, Sem.run_bind, Sem.run_pure, Result.andThen_ok, List.map_toArray, List.map_cons, List.map_nil, hs, hx, hrun]
  exact h a' cap w' h2 h3 h5
theorem wpList_app {B n : Nat} {w : World} {v : Value} {xs : List Value} {ops : Array Oper} {rest : List Oper} {o : Oper} {a : Act} {Q : Exit → Act → World → Prop} (hgd : o.guard = none) (s x : Operand)
    (ho : o.op = .call { callee := .builtin .append, args := #[s, x], argTypes := #[27, 27] }) (hr : RR B w v n xs) (hs : a.eval s = v) (ad : Addr) (m c : Nat) (news : List Value) (hx : a.eval x = .slice (some ad) m c)
    (hl : news.length = m * 5) (hnews : ∀ j u, news[j]? = some u → w.cell? (ad.add j) = some u) (h1 : ∀ u ∈ news, u.oneCell' = true) (hm : 0 < m) (hb : n + m ≤ 1000000) (hB : B ≤ w.heap.size)
    (h : ∀ a' cap w', RR B w' (.slice (some a') (n + m) cap) (n + m) (xs ++ news) → w.grownBy w' v.ownBlock → (∀ k, (Value.slice (some a') (n + m) cap).ownBlock = some k → v.ownBlock = some k ∨ w.heap.size ≤ k) → wpList Tryd.prog ops Q rest (a.put o.dst (.slice (some a') (n + m) cap)) w') : wpList Tryd.prog ops Q (o :: rest) a w :=
  wpList_plain hgd fun _ hK => wp_app s x ho hr hs ad m c news hx hl hnews h1 hm hb hB fun a' cap w' h2 h3 h4 => hK _ _ (h a' cap w' h2 h3 h4)
theorem step_app {B n : Nat} {w : World} {v : Value} {xs : List Value} {ops : Array Oper} {o : Oper} {a : Act} {K : Act → World → Prop} {Q : Exit → Act → World → Prop} {E : Prop} (hgd : o.guard = none) (s x : Operand)
    (ho : o.op = .call { callee := .builtin .append, args := #[s, x], argTypes := #[27, 27] }) (hr : RR B w v n xs) (hs : a.eval s = v) (ad : Addr) (m c : Nat) (news : List Value) (hx : a.eval x = .slice (some ad) m c)
    (hl : news.length = m * 5) (hnews : ∀ j u, news[j]? = some u → w.cell? (ad.add j) = some u) (h1 : ∀ u ∈ news, u.oneCell' = true) (hm : 0 < m) (hb : n + m ≤ 1000000) (hB : B ≤ w.heap.size)
    (h : ∀ a' cap w', RR B w' (.slice (some a') (n + m) cap) (n + m) (xs ++ news) → w.grownBy w' v.ownBlock → (∀ k, (Value.slice (some a') (n + m) cap).ownBlock = some k → v.ownBlock = some k ∨ w.heap.size ≤ k) → K (a.put o.dst (.slice (some a') (n + m) cap)) w') :
    if Region.wanted o (yielded ops a.tmps) = true then Oper.wp Tryd.prog o a w K Q else E := by
  have hw : Region.wanted o (yielded ops a.tmps) = true := by simp [Region.wanted, hgd]
  rw [if_pos hw]
  exact wp_app s x ho hr hs ad m c news hx hl hnews h1 hm hb hB h
end Go.Proofs.YtjcgnbmpnaapdaaDoor
namespace Go.Proofs.YtjcgnbmpnaapdaaDoor
open Go.RowKit
set_option linter.unusedVariables false

/-- All blocks of a type are as they were. -/
def Ky (t : TypeId) (w w' : World) : Prop := ∀ (k : Nat) (c : Array Value) (f : Nat × Nat), w.heap[k]? = some (Obj.cells c t f) → w'.heap[k]? = some (Obj.cells c t f)
theorem Ky.refl (t : TypeId) (w : World) : Ky t w w := fun _ _ _ h => h
theorem Ky.trans {t : TypeId} {a b c : World} (h : Ky t a b) (k : Ky t b c) : Ky t a c := fun i x f hi => k i x f (h i x f hi)
theorem Ky.of {t : TypeId} {w w' : World} {row : Option Nat} (hg : w.grownBy w' row) (hrow : ∀ g, row = some g → ∀ c f, w.heap[g]? ≠ some (.cells c t f)) : Ky t w w' := by
  intro k c f hk
  rw [hg.block k (Array.getElem?_eq_some_iff.1 hk).1 (fun e => hrow k e.symm c f hk)]
  exact hk
theorem Ky.own {t : TypeId} {w w' : World} {B n size : Nat} {v : Value} {xs : List Value} (h : Ky t w w') (ho : w.ownsRow B t size v n xs) : w'.ownsRow B t size v n xs := by
  refine ⟨ho.1, ?_⟩
  rcases ho.2 with h0 | ⟨g, cap, cur, hv, hb, hg, r⟩
  · exact .inl h0
  · exact .inr ⟨g, cap, cur, hv, hb, h g cur (0, 0) hg, r⟩
theorem Ky.rr {w w' : World} {B n : Nat} {v : Value} {xs : List Value} (h : Ky 35 w w') (ho : RR B w v n xs) : RR B w' v n xs := by
  rcases ho with h0 | ⟨g, off, cap, hv, hB, ⟨cur, hh, hs⟩, h1, h2, h3, h4⟩
  · exact .inl h0
  · have hb : w'.heap[g]? = w.heap[g]? := (h g cur (0, 0) hh).trans hh.symm
    exact .inr ⟨g, off, cap, hv, hB, ⟨cur, hb.trans hh, hs⟩, h1, h2, h3, fun j hj => (World.cell?_of_block (a := ⟨g, off + j, none⟩) hb).trans (h4 j hj)⟩

def evHead (e : Ev) (sv : Value) : List Value := [.int .i64 e.kind, .int .i64 e.place, .string (sb e.name), .string (sb e.text), sv]
abbrev Bd (l : Bs) : Prop := ∀ i, 0 ≤ l.getD i 0 ∧ l.getD i 0 < 256
/-- An event whose texts are bytes. -/
structure EvOk (e : Ev) : Prop where
  nm : Bd e.name
  tx : Bd e.text
  at' : ∀ a ∈ e.attrs, AtOk a
/-- Events as cells. -/
def EvC (B : Nat) (w : World) : List Ev → List Value → Prop
  | [], xs => xs = []
  | e :: es, xs => ∃ sv ys, xs = evHead e sv ++ ys ∧ (AR B w sv e.attrs ∧ EvOk e) ∧ EvC B w es ys
theorem EvC.len {B : Nat} {w : World} : ∀ {es : List Ev} {xs : List Value}, EvC B w es xs → xs.length = es.length * 5
  | [], xs, h => by rw [EvC] at h; subst h; rfl
  | e :: es, xs, h => by
    obtain ⟨sv, ys, rfl, _, h2⟩ := h
    have := EvC.len h2
    simp [evHead, this]
    omega
theorem EvC.ky {B : Nat} {w w' : World} (h : Ky 37 w w') : ∀ {es : List Ev} {xs : List Value}, EvC B w es xs → EvC B w' es xs
  | [], xs, hx => hx
  | e :: es, xs, hx => by
    obtain ⟨sv, ys, h0, h1, h2⟩ := hx
    exact ⟨sv, ys, h0, ⟨h.own h1.1, h1.2⟩, EvC.ky h h2⟩
theorem EvC.app {B : Nat} {w : World} : ∀ {es fs : List Ev} {xs ys : List Value}, EvC B w es xs → EvC B w fs ys → EvC B w (es ++ fs) (xs ++ ys)
  | [], fs, xs, ys, h, k => by rw [EvC] at h; subst h; exact k
  | e :: es, fs, xs, ys, h, k => by
    obtain ⟨sv, zs, rfl, h1, h2⟩ := h
    exact ⟨sv, zs ++ ys, by rw [List.append_assoc], h1, EvC.app h2 k⟩
theorem EvC.one {B : Nat} {w : World} {es : List Ev} {xs : List Value} (h : EvC B w es xs) : ∀ u ∈ xs, u.oneCell' = true := by
  induction es generalizing xs with
  | nil => rw [EvC] at h; subst h; intro u hu; cases hu
  | cons e es ih =>
    obtain ⟨sv, ys, rfl, h1, h2⟩ := h
    intro u hu
    rcases List.mem_append.1 hu with hu | hu
    · simp [evHead] at hu
      rcases hu with rfl | rfl | rfl | rfl | rfl
      · rfl
      · rfl
      · rfl
      · rfl
      · rcases h1.1.2 with ⟨rfl, _⟩ | ⟨g, cap, cur, rfl, _⟩ <;> rfl
    · exact ih h2 u hu

/-- The parser's state in memory. -/
structure Full (B P : Nat) (w : World) (v : PV) (l : Bs) (L : Lm) (s : S) : Prop where
  inn : In P w v l s.k
  pb : P < B
  gb : ∀ g, v.b.ownBlock = some g → g < B
  sz : B ≤ w.heap.size
  ld : v.d = L.D
  lN : v.n = L.N
  la : v.a = L.A
  lt' : v.t = L.T
  bD : 1 ≤ L.D ∧ L.D ≤ 64
  bA : 1 ≤ L.A ∧ L.A ≤ 64
  bT : 1 ≤ L.T ∧ L.T ≤ 4096
  lg : v.long = false
  op : NR B w v.op s.op
  opl : (s.op.length : Int) ≤ L.D
  nd : v.nodes = s.nodes
  bg : v.begun = s.begun
  ta : v.tat = s.tat
  to : OR B w v.tout s.tout
  tb : ∀ i, 0 ≤ s.tout.getD i 0 ∧ s.tout.getD i 0 < 256
  tl : (s.tout.length : Int) ≤ L.T
  rd : ∃ xs, RR B w v.ready s.ready.length xs ∧ EvC B w s.ready xs
  rl : s.ready.length ≤ 3
  ov : v.over = s.over
  fa : v.fat = 0
  fe : v.ferr = 0
  bN : 1 ≤ L.N ∧ L.N ≤ 4096
  nb : 0 ≤ s.nodes ∧ s.nodes ≤ L.N
  ob : ∀ n ∈ s.op, Bd n ∧ n.length ≤ 65536

/-- What a step of the parser leaves. -/
structure Fr (P : Nat) (w w' : World) (v v' : PV) : Prop where
  os : w'.os = w.os
  tape : w'.tape = w.tape
  output : w'.output = w.output
  size : w.heap.size ≤ w'.heap.size
  blk : ∀ k, k < w.heap.size → k ≠ P → some k ≠ v.tout.ownBlock → some k ≠ v.ready.ownBlock → some k ≠ v.op.ownBlock → w'.heap[k]? = w.heap[k]?
  nt : ∀ k, v'.tout.ownBlock = some k → v.tout.ownBlock = some k ∨ w.heap.size ≤ k
  nr : ∀ k, v'.ready.ownBlock = some k → v.ready.ownBlock = some k ∨ w.heap.size ≤ k
  no : ∀ k, v'.op.ownBlock = some k → v.op.ownBlock = some k ∨ w.heap.size ≤ k
theorem Fr.trans {P : Nat} {w1 w2 w3 : World} {v1 v2 v3 : PV} (h : Fr P w1 w2 v1 v2) (k : Fr P w2 w3 v2 v3) : Fr P w1 w3 v1 v3 := by
  refine ⟨k.os.trans h.os, k.tape.trans h.tape, k.output.trans h.output, Nat.le_trans h.size k.size, ?_, ?_, ?_, ?_⟩
  · intro i hi h1 h2 h3 h4
    rw [k.blk i (Nat.lt_of_lt_of_le hi h.size) h1, h.blk i hi h1 h2 h3 h4]
    · intro e; rcases h.nt i e.symm with e | e
      · exact h2 e.symm
      · omega
    · intro e; rcases h.nr i e.symm with e | e
      · exact h3 e.symm
      · omega
    · intro e; rcases h.no i e.symm with e | e
      · exact h4 e.symm
      · omega
  · intro i hi; rcases k.nt i hi with e | e
    · exact h.nt i e
    · right; have := h.size; omega
  · intro i hi; rcases k.nr i hi with e | e
    · exact h.nr i e
    · right; have := h.size; omega
  · intro i hi; rcases k.no i hi with e | e
    · exact h.no i e
    · right; have := h.size; omega
theorem Fr.scan {P : Nat} {w w' : World} {v : PV} {k : Int} (hg : w.grownBy w' (some P)) : Fr P w w' v { v with k := k } :=
  ⟨hg.os, hg.tape, hg.output, hg.size, fun i hi h1 _ _ _ => hg.block i hi (by simpa using h1), fun _ h => .inl h, fun _ h => .inl h, fun _ h => .inl h⟩
theorem ky_ps {t : TypeId} {P : Nat} {w w' : World} {v : PV} (hp : PS w P v) (hg : w.grownBy w' (some P)) (ht : t ≠ 81) : Ky t w w' := by
  refine Ky.of hg ?_
  intro g e c f h
  cases e
  unfold PS at hp
  rw [hp] at h
  simp at h
  exact ht h.2.1.symm
theorem Full.scan {B P k : Nat} {w w' : World} {v : PV} {l : Bs} {L : Lm} {s : S} (h : Full B P w v l L s) (hg : w.grownBy w' (some P)) (hi : In P w' { v with k := (k : Int) } l k) : Full B P w' { v with k := (k : Int) } l L { s with k := k } := by
  have hk : ∀ {t : TypeId}, t ≠ 81 → Ky t w w' := fun ht => ky_ps h.inn.ps hg ht
  obtain ⟨xs, h1, h2⟩ := h.rd
  exact ⟨hi, h.pb, h.gb, Nat.le_trans h.sz hg.size, h.ld, h.lN, h.la, h.lt', h.bD, h.bA, h.bT, h.lg, (hk (by decide)).own h.op, h.opl, h.nd, h.bg, h.ta, (hk (by decide)).own h.to, h.tb, h.tl, ⟨xs, (hk (by decide)).rr h1, EvC.ky (hk (by decide)) h2⟩, h.rl, h.ov, h.fa, h.fe, h.bN, h.nb, h.ob⟩
end Go.Proofs.YtjcgnbmpnaapdaaDoor
namespace Go.Proofs.YtjcgnbmpnaapdaaDoor
open Go.RowKit
set_option linter.unusedVariables false

theorem rr_ty {B n : Nat} {w : World} {v : Value} {xs : List Value} {t : TypeId} (h : RR B w v n xs) (ht : t ≠ 35) : ∀ g, v.ownBlock = some g → ∀ c f, w.heap[g]? ≠ some (Obj.cells c t f) := by
  intro g hg c f hh
  rcases h with ⟨rfl, _⟩ | ⟨g', off, cap, rfl, _, ⟨cur, h1, _⟩, _⟩
  · simp [Value.ownBlock] at hg
  · simp [Value.ownBlock] at hg
    subst hg
    rw [h1] at hh
    simp at hh
    exact ht hh.2.1.symm
theorem own_ty {B n size : Nat} {e t : TypeId} {w : World} {v : Value} {xs : List Value} (h : w.ownsRow B e size v n xs) (ht : t ≠ e) : ∀ g, v.ownBlock = some g → ∀ c f, w.heap[g]? ≠ some (Obj.cells c t f) := by
  intro g hg c f hh
  rcases h.2 with ⟨rfl, _⟩ | ⟨g', cap, cur, rfl, _, h1, _⟩
  · simp [Value.ownBlock] at hg
  · simp [Value.ownBlock] at hg
    subst hg
    rw [h1] at hh
    simp at hh
    exact ht hh.2.1.symm
theorem In.ky {P k : Nat} {w w' : World} {v : PV} {l : Bs} (h : In P w v l k) (h5 : Ky 5 w w') (h81 : Ky 81 w w') : In P w' v l k :=
  ⟨h81 _ _ _ h.ps, ⟨h5.own h.br.1, h.br.2⟩, h.ke, h.kl, h.ll⟩
theorem In.pset {P k i : Nat} {w : World} {v v' : PV} {l : Bs} {x : Value} (h : In P w v l k) (hx : v.cells.setIfInBounds i x = v'.cells) (hb : v'.b = v.b) (hk : v'.k = v.k) : In P (w.setCell ⟨P, i, none⟩ x) v' l k :=
  ⟨h.ps.set i x hx, by rw [hb]; exact h.br.kept h.ps (grownBy_set _ _ _ _), by rw [hk]; exact h.ke, h.kl, h.ll⟩

/-- A store into one of the parser's cells: nothing else has turned. -/
theorem ky_pset {P i : Nat} {w : World} {v : PV} {t : TypeId} (h : PS w P v) (ht : t ≠ 81) (x : Value) : Ky t w (w.setCell ⟨P, i, none⟩ x) := ky_ps h (grownBy_set _ _ _ _) ht

theorem Full.ready {B P : Nat} {w w3 : World} {v : PV} {l : Bs} {L : Lm} {s : S} {rv : Value} {es : List Ev} {xs : List Value} (h : Full B P w v l L s) (hg : w.grownBy w3 v.ready.ownBlock) (hr : RR B w3 rv es.length xs) (he : EvC B w3 es xs) (hl : es.length ≤ 3)
    (hn : ∀ k, rv.ownBlock = some k → v.ready.ownBlock = some k ∨ w.heap.size ≤ k) :
    Full B P (w3.setCell ⟨P, 14, none⟩ rv) { v with ready := rv } l L { s with ready := es } ∧ Fr P w (w3.setCell ⟨P, 14, none⟩ rv) v { v with ready := rv } := by
  obtain ⟨ys, h1, h2⟩ := h.rd
  have hk : ∀ {t : TypeId}, t ≠ 35 → Ky t w w3 := fun ht => Ky.of hg (rr_ty h1 ht)
  have hi3 : In P w3 v l s.k := h.inn.ky (hk (by decide)) (hk (by decide))
  have hk4 : ∀ {t : TypeId}, t ≠ 81 → Ky t w3 (w3.setCell ⟨P, 14, none⟩ rv) := fun ht => ky_pset hi3.ps ht rv
  refine ⟨⟨hi3.pset (i := 14) rfl rfl rfl, h.pb, h.gb, Nat.le_trans h.sz (Nat.le_trans hg.size (grownBy_set w3 P 14 rv).size), h.ld, h.lN, h.la, h.lt', h.bD, h.bA, h.bT, h.lg, (hk4 (by decide)).own ((hk (by decide)).own h.op), h.opl, h.nd, h.bg, h.ta, (hk4 (by decide)).own ((hk (by decide)).own h.to), h.tb, h.tl, ⟨xs, (hk4 (by decide)).rr hr, EvC.ky (hk4 (by decide)) he⟩, hl, h.ov, h.fa, h.fe, h.bN, h.nb, h.ob⟩, ?_⟩
  have hg4 := grownBy_set w3 P 14 rv
  refine ⟨hg4.os.trans hg.os, hg4.tape.trans hg.tape, hg4.output.trans hg.output, Nat.le_trans hg.size hg4.size, ?_, fun _ e => .inl e, hn, fun _ e => .inl e⟩
  intro k hk1 n1 n2 n3 n4
  rw [hg4.block k (Nat.lt_of_lt_of_le hk1 hg.size) (by simpa using n1), hg.block k hk1 n3]

theorem Full.openv {B P : Nat} {w w3 : World} {v : PV} {l : Bs} {L : Lm} {s : S} {ov : Value} {ns : List Bs} (h : Full B P w v l L s) (hg : w.grownBy w3 v.op.ownBlock) (hr : NR B w3 ov ns) (hl : (ns.length : Int) ≤ L.D) (hob : ∀ n ∈ ns, Bd n ∧ n.length ≤ 65536)
    (hn : ∀ k, ov.ownBlock = some k → v.op.ownBlock = some k ∨ w.heap.size ≤ k) :
    Full B P (w3.setCell ⟨P, 9, none⟩ ov) { v with op := ov } l L { s with op := ns } ∧ Fr P w (w3.setCell ⟨P, 9, none⟩ ov) v { v with op := ov } := by
  obtain ⟨xs, h1, h2⟩ := h.rd
  have hk : ∀ {t : TypeId}, t ≠ 9 → Ky t w w3 := fun ht => Ky.of hg (own_ty h.op ht)
  have hi3 : In P w3 v l s.k := h.inn.ky (hk (by decide)) (hk (by decide))
  have hk4 : ∀ {t : TypeId}, t ≠ 81 → Ky t w3 (w3.setCell ⟨P, 9, none⟩ ov) := fun ht => ky_pset hi3.ps ht ov
  refine ⟨⟨hi3.pset (i := 9) rfl rfl rfl, h.pb, h.gb, Nat.le_trans h.sz (Nat.le_trans hg.size (grownBy_set w3 P 9 ov).size), h.ld, h.lN, h.la, h.lt', h.bD, h.bA, h.bT, h.lg, (hk4 (by decide)).own hr, hl, h.nd, h.bg, h.ta, (hk4 (by decide)).own ((hk (by decide)).own h.to), h.tb, h.tl, ⟨xs, (hk4 (by decide)).rr ((hk (by decide)).rr h1), EvC.ky (hk4 (by decide)) (EvC.ky (hk (by decide)) h2)⟩, h.rl, h.ov, h.fa, h.fe, h.bN, h.nb, hob⟩, ?_⟩
  have hg4 := grownBy_set w3 P 9 ov
  refine ⟨hg4.os.trans hg.os, hg4.tape.trans hg.tape, hg4.output.trans hg.output, Nat.le_trans hg.size hg4.size, ?_, fun _ e => .inl e, fun _ e => .inl e, hn⟩
  intro k hk1 n1 n2 n3 n4
  rw [hg4.block k (Nat.lt_of_lt_of_le hk1 hg.size) (by simpa using n1), hg.block k hk1 n4]

/-- The text's three cells. -/
theorem Full.text3 {B P : Nat} {w : World} {v : PV} {l : Bs} {L : Lm} {s : S} (b : Bool) (a : Int) (h : Full B P w v l L s) :
    Full B P (((w.setCell ⟨P, 11, none⟩ (.bool b)).setCell ⟨P, 12, none⟩ (.int .i64 a)).setCell ⟨P, 13, none⟩ (.slice none 0 0)) { v with begun := b, tat := a, tout := .slice none 0 0 } l L { s with begun := b, tat := a, tout := [] } ∧
      Fr P w (((w.setCell ⟨P, 11, none⟩ (.bool b)).setCell ⟨P, 12, none⟩ (.int .i64 a)).setCell ⟨P, 13, none⟩ (.slice none 0 0)) v { v with begun := b, tat := a, tout := .slice none 0 0 } := by
  have i1 : In P (w.setCell ⟨P, 11, none⟩ (.bool b)) { v with begun := b } l s.k := h.inn.pset (i := 11) rfl rfl rfl
  have i2 : In P ((w.setCell ⟨P, 11, none⟩ (.bool b)).setCell ⟨P, 12, none⟩ (.int .i64 a)) { v with begun := b, tat := a } l s.k := i1.pset (i := 12) rfl rfl rfl
  have i3 : In P (((w.setCell ⟨P, 11, none⟩ (.bool b)).setCell ⟨P, 12, none⟩ (.int .i64 a)).setCell ⟨P, 13, none⟩ (.slice none 0 0)) { v with begun := b, tat := a, tout := .slice none 0 0 } l s.k := i2.pset (i := 13) rfl rfl rfl
  have hg : w.grownBy (((w.setCell ⟨P, 11, none⟩ (.bool b)).setCell ⟨P, 12, none⟩ (.int .i64 a)).setCell ⟨P, 13, none⟩ (.slice none 0 0)) (some P) := grownBy_trans (grownBy_trans (grownBy_set _ _ _ _) (grownBy_set _ _ _ _)) (grownBy_set _ _ _ _)
  have hk : ∀ {t : TypeId}, t ≠ 81 → Ky t w (((w.setCell ⟨P, 11, none⟩ (.bool b)).setCell ⟨P, 12, none⟩ (.int .i64 a)).setCell ⟨P, 13, none⟩ (.slice none 0 0)) := fun ht => ky_ps h.inn.ps hg ht
  obtain ⟨xs, h1, h2⟩ := h.rd
  have hbT := h.bT
  refine ⟨⟨i3, h.pb, h.gb, Nat.le_trans h.sz hg.size, h.ld, h.lN, h.la, h.lt', h.bD, h.bA, h.bT, h.lg, (hk (by decide)).own h.op, h.opl, h.nd, rfl, rfl, World.ownsRow_nil _ _ _ _, bd_nil, by simp; omega, ⟨xs, (hk (by decide)).rr h1, EvC.ky (hk (by decide)) h2⟩, h.rl, h.ov, h.fa, h.fe, h.bN, h.nb, h.ob⟩, ?_⟩
  exact ⟨hg.os, hg.tape, hg.output, hg.size, fun k hk1 n1 _ _ _ => hg.block k hk1 (by simpa using n1), fun k e => by simp [Value.ownBlock] at e, fun _ e => .inl e, fun _ e => .inl e⟩

theorem Full.toutv {B P : Nat} {w w3 : World} {v : PV} {l : Bs} {L : Lm} {s : S} {tv : Value} {o : Bs} (h : Full B P w v l L s) (hg : w.grownBy w3 v.tout.ownBlock) (hr : OR B w3 tv o) (hb : ∀ i, 0 ≤ o.getD i 0 ∧ o.getD i 0 < 256) (hl : (o.length : Int) ≤ L.T)
    (hn : ∀ k, tv.ownBlock = some k → v.tout.ownBlock = some k ∨ w.heap.size ≤ k) (hne : v.tout.ownBlock = none ∨ v.tout.ownBlock ≠ v.b.ownBlock) :
    Full B P (w3.setCell ⟨P, 13, none⟩ tv) { v with tout := tv } l L { s with tout := o } ∧ Fr P w (w3.setCell ⟨P, 13, none⟩ tv) v { v with tout := tv } := by
  obtain ⟨xs, h1, h2⟩ := h.rd
  have hk : ∀ {t : TypeId}, t ≠ 5 → Ky t w w3 := fun ht => Ky.of hg (own_ty h.to ht)
  have hbr : BR w3 v.b l := by
    refine ⟨h.inn.br.1.kept hg ?_, h.inn.br.2⟩
    rcases hne with e | e
    · rcases h.inn.br.1.2 with ⟨e2, _⟩ | ⟨g, cap, cur, e2, _⟩
      · left; rw [e2]; rfl
      · right; rw [e, e2]; simp [Value.ownBlock]
    · exact .inr (fun x => e x.symm)
  have hi3 : In P w3 v l s.k := ⟨hk (by decide) _ _ _ h.inn.ps, hbr, h.inn.ke, h.inn.kl, h.inn.ll⟩
  have hk4 : ∀ {t : TypeId}, t ≠ 81 → Ky t w3 (w3.setCell ⟨P, 13, none⟩ tv) := fun ht => ky_pset hi3.ps ht tv
  refine ⟨⟨hi3.pset (i := 13) rfl rfl rfl, h.pb, h.gb, Nat.le_trans h.sz (Nat.le_trans hg.size (grownBy_set w3 P 13 tv).size), h.ld, h.lN, h.la, h.lt', h.bD, h.bA, h.bT, h.lg, (hk4 (by decide)).own ((hk (by decide)).own h.op), h.opl, h.nd, h.bg, h.ta, (hk4 (by decide)).own hr, hb, hl, ⟨xs, (hk4 (by decide)).rr ((hk (by decide)).rr h1), EvC.ky (hk4 (by decide)) (EvC.ky (hk (by decide)) h2)⟩, h.rl, h.ov, h.fa, h.fe, h.bN, h.nb, h.ob⟩, ?_⟩
  have hg4 := grownBy_set w3 P 13 tv
  refine ⟨hg4.os.trans hg.os, hg4.tape.trans hg.tape, hg4.output.trans hg.output, Nat.le_trans hg.size hg4.size, ?_, hn, fun _ e => .inl e, fun _ e => .inl e⟩
  intro k hk1 n1 n2 n3 n4
  rw [hg4.block k (Nat.lt_of_lt_of_le hk1 hg.size) (by simpa using n1), hg.block k hk1 n2]
theorem Full.nodesv {B P : Nat} {w : World} {v : PV} {l : Bs} {L : Lm} {s : S} (x : Int) (h : Full B P w v l L s) (hx : 0 ≤ x ∧ x ≤ L.N) :
    Full B P (w.setCell ⟨P, 10, none⟩ (.int .i64 x)) { v with nodes := x } l L { s with nodes := x } ∧ Fr P w (w.setCell ⟨P, 10, none⟩ (.int .i64 x)) v { v with nodes := x } := by
  obtain ⟨xs, h1, h2⟩ := h.rd
  have hg := grownBy_set w P 10 (.int .i64 x)
  have hk : ∀ {t : TypeId}, t ≠ 81 → Ky t w (w.setCell ⟨P, 10, none⟩ (.int .i64 x)) := fun ht => ky_ps h.inn.ps hg ht
  refine ⟨⟨h.inn.pset (i := 10) rfl rfl rfl, h.pb, h.gb, Nat.le_trans h.sz hg.size, h.ld, h.lN, h.la, h.lt', h.bD, h.bA, h.bT, h.lg, (hk (by decide)).own h.op, h.opl, rfl, h.bg, h.ta, (hk (by decide)).own h.to, h.tb, h.tl, ⟨xs, (hk (by decide)).rr h1, EvC.ky (hk (by decide)) h2⟩, h.rl, h.ov, h.fa, h.fe, h.bN, hx, h.ob⟩, ?_⟩
  exact ⟨hg.os, hg.tape, hg.output, hg.size, fun k hk1 n1 _ _ _ => hg.block k hk1 (by simpa using n1), fun _ e => .inl e, fun _ e => .inl e, fun _ e => .inl e⟩
theorem Full.overv {B P : Nat} {w : World} {v : PV} {l : Bs} {L : Lm} {s : S} (h : Full B P w v l L s) :
    Full B P (w.setCell ⟨P, 17, none⟩ (.bool true)) { v with over := true } l L { s with over := true } ∧ Fr P w (w.setCell ⟨P, 17, none⟩ (.bool true)) v { v with over := true } := by
  obtain ⟨xs, h1, h2⟩ := h.rd
  have hg := grownBy_set w P 17 (.bool true)
  have hk : ∀ {t : TypeId}, t ≠ 81 → Ky t w (w.setCell ⟨P, 17, none⟩ (.bool true)) := fun ht => ky_ps h.inn.ps hg ht
  refine ⟨⟨h.inn.pset (i := 17) rfl rfl rfl, h.pb, h.gb, Nat.le_trans h.sz hg.size, h.ld, h.lN, h.la, h.lt', h.bD, h.bA, h.bT, h.lg, (hk (by decide)).own h.op, h.opl, h.nd, h.bg, h.ta, (hk (by decide)).own h.to, h.tb, h.tl, ⟨xs, (hk (by decide)).rr h1, EvC.ky (hk (by decide)) h2⟩, h.rl, rfl, h.fa, h.fe, h.bN, h.nb, h.ob⟩, ?_⟩
  exact ⟨hg.os, hg.tape, hg.output, hg.size, fun k hk1 n1 _ _ _ => hg.block k hk1 (by simpa using n1), fun _ e => .inl e, fun _ e => .inl e, fun _ e => .inl e⟩
/-- Behind a step that makes memory alone. -/
theorem Full.below {B P : Nat} {w w' : World} {v : PV} {l : Bs} {L : Lm} {s : S} (h : Full B P w v l L s) (hb : Below w.heap.size w w') : Full B P w' v l L s ∧ Fr P w w' v v := by
  obtain ⟨xs, h1, h2⟩ := h.rd
  have hg : w.grownBy w' none := grownBy_of_below hb none
  have hk : ∀ {t : TypeId}, Ky t w w' := fun {t} => Ky.of hg (fun g e => by cases e)
  refine ⟨⟨h.inn.ky hk hk, h.pb, h.gb, Nat.le_trans h.sz hg.size, h.ld, h.lN, h.la, h.lt', h.bD, h.bA, h.bT, h.lg, hk.own h.op, h.opl, h.nd, h.bg, h.ta, hk.own h.to, h.tb, h.tl, ⟨xs, hk.rr h1, EvC.ky hk h2⟩, h.rl, h.ov, h.fa, h.fe, h.bN, h.nb, h.ob⟩, ?_⟩
  exact ⟨hg.os, hg.tape, hg.output, hg.size, fun k hk1 _ _ _ _ => hg.block k hk1 (by simp), fun _ e => .inl e, fun _ e => .inl e, fun _ e => .inl e⟩
/-- What a step of the parser answers. -/
def Rd (B P : Nat) (w : World) (v : PV) (l : Bs) (L : Lm) (x : Q) (e : Ending) (w' : World) : Prop :=
  match x with
  | .go s' => e = .returned (.tuple #[]) ∧ ∃ v', Full B P w' v' l L s' ∧ Fr P w w' v v'
  | .bad p er => e = .panicked (flt p er) ∧ ∃ v', PS w' P v' ∧ v'.ready = v.ready ∧ Fr P w w' v v'
end Go.Proofs.YtjcgnbmpnaapdaaDoor
namespace Go.Proofs.YtjcgnbmpnaapdaaDoor
open Go.RowKit
set_option linter.unusedVariables false

set_option maxRecDepth 20000 in
set_option maxHeartbeats 3200000 in
/-- Without a text. -/
theorem tell_bare {B P tg m : Nat} {w : World} {v : PV} {l : Bs} {L : Lm} {s : S} {tag : List Ev} {news : List Value} (h : Full B P w v l L s) (ht : s.tout = []) (hnew : ∀ j u, news[j]? = some u → w.cell? ((⟨tg, 0, none⟩ : Addr).add j) = some u)
    (hev : EvC B w tag news) (hm : tag.length = m) (hm0 : 0 < m) (hrl : s.ready.length + m ≤ 3) (hP : tg ≠ P) :
    Calls Tryd.prog 76 #[pp P, .slice (some ⟨tg, 0, none⟩) m m] w fun e w' => e = .returned (.tuple #[]) ∧ ∃ v', Full B P w' v' l L (tellS s tag) ∧ Fr P w w' v v' := by
  have c13 : w.cell? ⟨P, 13, none⟩ = some v.tout := h.inn.ps.cell 13
  have f11 := h.inn.ps.froz 11
  have f12 := h.inn.ps.froz 12
  have f13 := h.inn.ps.froz 13
  have c11 : w.cell? ⟨P, 11, none⟩ = some (.bool v.begun) := h.inn.ps.cell 11
  have c12 : w.cell? ⟨P, 12, none⟩ = some (.int .i64 v.tat) := h.inn.ps.cell 12
  obtain ⟨tcap, htv⟩ : ∃ a cap, v.tout = .slice a 0 cap := by
    have := h.to
    rw [ht] at this
    rcases this.2 with ⟨e, _⟩ | ⟨g, cap, cur, e, _⟩
    · exact ⟨none, 0, e⟩
    · exact ⟨_, cap, e⟩
  obtain ⟨tcap2, htv⟩ := htv
  rw [htv] at c13
  have c14 : w.cell? ⟨P, 14, none⟩ = some v.ready := h.inn.ps.cell 14
  have f14 := h.inn.ps.froz 14
  obtain ⟨h3, fr3⟩ := h.text3 false 0
  obtain ⟨xs, hr3', he3⟩ := h3.rd
  have hr3 : RR B (((w.setCell ⟨P, 11, none⟩ (.bool false)).setCell ⟨P, 12, none⟩ (.int .i64 0)).setCell ⟨P, 13, none⟩ (.slice none 0 0)) v.ready s.ready.length xs := hr3'
  have hsz3 : B ≤ (((w.setCell ⟨P, 11, none⟩ (.bool false)).setCell ⟨P, 12, none⟩ (.int .i64 0)).setCell ⟨P, 13, none⟩ (.slice none 0 0)).heap.size := h3.sz
  have hbn : s.ready.length + m ≤ 1000000 := by omega
  clear hr3'
  have hg3 : w.grownBy (((w.setCell ⟨P, 11, none⟩ (.bool false)).setCell ⟨P, 12, none⟩ (.int .i64 0)).setCell ⟨P, 13, none⟩ (.slice none 0 0)) (some P) := grownBy_trans (grownBy_trans (grownBy_set _ _ _ _) (grownBy_set _ _ _ _)) (grownBy_set _ _ _ _)
  have hnew3 : ∀ j u, news[j]? = some u → (((w.setCell ⟨P, 11, none⟩ (.bool false)).setCell ⟨P, 12, none⟩ (.int .i64 0)).setCell ⟨P, 13, none⟩ (.slice none 0 0)).cell? ((⟨tg, 0, none⟩ : Addr).add j) = some u := by
    intro j u hu
    have := hnew j u hu
    rw [addr_add] at this ⊢
    exact far_cell hg3 this (by simpa using Ne.symm hP)
  have hev3 : EvC B (((w.setCell ⟨P, 11, none⟩ (.bool false)).setCell ⟨P, 12, none⟩ (.int .i64 0)).setCell ⟨P, 13, none⟩ (.slice none 0 0)) tag news := EvC.ky (ky_ps h.inn.ps hg3 (by decide)) hev
  have hln : news.length = m * 5 := by rw [hev.len, hm]
  have hone := hev.one
  have hneR : v.ready.ownBlock ≠ some P := by
    intro e
    exact rr_ty hr3 (t := 81) (by decide) P e _ _ h3.inn.ps
  have HH : Hid _ := And.intro h (And.intro h3 (And.intro fr3 (And.intro hr3 (And.intro he3 (And.intro hnew3 hev3)))))
  have HN : Hid _ := hnew
  have HE : Hid _ := hev
  have HM : Hid _ := hm
  have HT : Hid (s.tout = []) := ht
  clear h h3 fr3 hr3 he3 hnew3 hev3 hnew hev hm hg3 ht
  go_enter Tryd.func76, Tryd.ntmps76
  go_wp2_with (first | (at_builtin; refine wpList_app (B := B) (n := s.ready.length) (v := v.ready) (xs := xs) rfl (.tmp 40) (.tmp 41) rfl HH.out.2.2.2.1 rfl ⟨tg, 0, none⟩ m m news rfl hln HH.out.2.2.2.2.2.1 hone hm0 hbn hsz3 ?_; intro a' cap w4 hrr4 hg4 hn4; have c14' : w4.cell? ⟨P, 14, none⟩ = some v.ready := far_cell hg4 (HH.out.2.1.inn.ps.cell 14) hneR; have f14' : w4.frozen? ⟨P, 14, none⟩ = false := far_froz hg4 (HH.out.2.1.inn.ps.cell 14) (HH.out.2.1.inn.ps.froz 14) hneR; have HQ : Hid _ := And.intro hrr4 (And.intro hg4 hn4); clear hrr4 hg4 hn4))
  go_end0
  obtain ⟨hrr4, hg4, hn4⟩ := HQ.out
  obtain ⟨h0, h3, fr3, hr3, he3, hnew3, hev3⟩ := HH.out
  have hk37 : Ky 37 _ w4 := Ky.of hg4 (rr_ty hr3 (by decide))
  have hlen : (s.ready ++ tag).length = s.ready.length + m := by rw [List.length_append, HM.out]
  have := Full.ready (es := s.ready ++ tag) (xs := xs ++ news) h3 hg4 (by rw [hlen]; exact hrr4) (EvC.app (EvC.ky hk37 he3) (EvC.ky hk37 hev3)) (by rw [hlen]; omega) hn4
  have e : tellS s tag = { { s with begun := false, tat := 0, tout := [] } with ready := s.ready ++ tag } := by
    unfold tellS
    rw [HT.out]
    simp
  rw [e]
  exact ⟨rfl, _, this.1, fr3.trans this.2⟩
end Go.Proofs.YtjcgnbmpnaapdaaDoor
