/- Maps keyed by pointers to nodes. -/
import Derived.Test.YthlkbijpphdblaaC4
import Derived.LaidEqlPtr
namespace Go.Proofs.Ythlkbijpphdblaa
open Go.RowKit
set_option linter.unusedVariables false

/-- The address of a node. -/
def Nb (w : World) (a : Addr) : Prop := ∃ arr, w.heap[a.block]? = some (.cells arr 27 (0, 0))
theorem eq_ptr {a b : Addr} {w : World} (ha : Nb w a) (hb : Nb w b) : (Op.equal 71 (.pointer (some a)) (.pointer (some b))).run Try.prog w = .ok (decide (a = b)) w := by
  obtain ⟨i, z, hi, _, _, hz1, _⟩ := info_ndp
  obtain ⟨aa, ha⟩ := ha
  obtain ⟨bb, hb⟩ := hb
  by_cases e : a = b
  · subst e
    have h : ∀ d : Nat, (Op.equalIn (d + 1) 71 (.pointer (some a)) (.pointer (some a))).run Try.prog w = .ok true w := fun d => by
      simp [Op.equalIn, run_underlying Try.underlying71, sizeOf, typeInfo, hi, run_sameAddr_same]
    simp [Op.equal, Op.maxDepth, h 9999]
  · have h : ∀ d : Nat, (Op.equalIn (d + 1) 71 (.pointer (some a)) (.pointer (some b))).run Try.prog w = .ok false w := fun d => by
      simp [Op.equalIn, run_underlying Try.underlying71, sizeOf, typeInfo, hi, hz1, run_sameAddr_other w e ha hb]
    simp [Op.equal, Op.maxDepth, h 9999, e]
theorem ck_ptr (e : Bool) (a : Addr) (w : World) : (Instr.checkKey e 10000 71 (.pointer (some a))).run Try.prog w = .ok () w := by
  unfold Instr.checkKey
  simp only [Sem.run_bind, run_underlying Try.underlying71, Result.andThen]
  rfl
abbrev kvP (p : Addr × Int) : Value × Value := (.pointer (some p.1), .int .i64 p.2)
/-- What stands at a node. -/
def pkf : List (Addr × Int) → Addr → Option Int
  | [], _ => none
  | p :: es, a => if a = p.1 then some p.2 else pkf es a
def ixp : List (Addr × Int) → Addr → Option Nat
  | [], _ => none
  | p :: es, a => if a = p.1 then some 0 else (ixp es a).map (· + 1)
def updp : List (Addr × Int) → Addr → Int → List (Addr × Int)
  | [], a, v => [(a, v)]
  | p :: es, a, v => if a = p.1 then (a, v) :: es else p :: updp es a v
theorem updp_get : ∀ (es : List (Addr × Int)) (a : Addr) (v : Int) (x : Addr), pkf (updp es a v) x = if x = a then some v else pkf es x
  | [], a, v, x => by simp [updp, pkf]
  | p :: es, a, v, x => by
    unfold updp
    by_cases h : a = p.1
    · rw [if_pos h]
      unfold pkf
      by_cases h2 : x = a
      · simp [h2]
      · simp [h2]
        have : ¬ x = p.1 := fun q => h2 (by rw [q, h])
        simp [this]
    · rw [if_neg h]
      show (if x = p.1 then some p.2 else pkf (updp es a v) x) = _
      rw [updp_get es a v x]
      by_cases h2 : x = p.1
      · have : ¬ x = a := fun q => h (by rw [← q, h2])
        simp [h2, pkf]
        intro e
        exact absurd e.symm h
      · by_cases h3 : x = a
        · rw [if_neg h2, if_pos h3, if_pos h3]
        · rw [if_neg h2, if_neg h3, if_neg h3]
          show _ = (if x = p.1 then some p.2 else pkf es x)
          rw [if_neg h2]
theorem updp_mem : ∀ (es : List (Addr × Int)) (a : Addr) (v : Int) (p : Addr × Int), p ∈ updp es a v → p.1 = a ∨ p ∈ es
  | [], a, v, p, h => by simp [updp] at h; exact .inl (by rw [h])
  | q :: es, a, v, p, h => by
    unfold updp at h
    split at h
    · rcases List.mem_cons.1 h with h | h
      · exact .inl (by rw [h])
      · exact .inr (List.mem_cons_of_mem _ h)
    · rcases List.mem_cons.1 h with h | h
      · exact .inr (by rw [h]; exact List.mem_cons_self)
      · rcases updp_mem es a v p h with h | h
        · exact .inl h
        · exact .inr (List.mem_cons_of_mem _ h)
theorem updp_none (v : Int) (a : Addr) : ∀ es, ixp es a = none → updp es a v = es ++ [(a, v)]
  | [], h => rfl
  | p :: es, h => by
    unfold ixp at h
    by_cases c : a = p.1
    · rw [if_pos c] at h; cases h
    · rw [if_neg c] at h
      unfold updp
      rw [if_neg c, updp_none v a es (by simpa using h)]
      rfl
theorem updp_some (v : Int) (a : Addr) : ∀ es i, ixp es a = some i → updp es a v = es.modify i (fun _ => (a, v)) ∧ ∃ p, es[i]? = some p ∧ p.1 = a
  | [], i, h => by cases h
  | p :: es, i, h => by
    unfold ixp at h
    by_cases c : a = p.1
    · rw [if_pos c] at h
      injection h with h
      subst h
      unfold updp
      rw [if_pos c]
      exact ⟨by simp, p, rfl, c.symm⟩
    · rw [if_neg c] at h
      obtain ⟨k, hk, rfl⟩ := Option.map_eq_some_iff.1 h
      obtain ⟨e1, q, e2, e3⟩ := updp_some v a es k hk
      unfold updp
      rw [if_neg c, e1]
      exact ⟨by simp, q, by simpa using e2, e3⟩
theorem ask_p {w : World} {a : Addr} (ha : Nb w a) : ∀ (L : List MapEntry) (es : List (Addr × Int)) (i : Nat), L.map (fun e => (e.key, e.val)) = es.map kvP → (∀ p ∈ es, Nb w p.1) → (Instr.findAsking 71 (.pointer (some a)) L i).run Try.prog w = .ok ((ixp es a).bind fun j => (pkf es a).map fun v => (i + j, .int .i64 v)) w
  | [], [], i, h, hk => rfl
  | [], p :: es, i, h, hk => by simp at h
  | e :: L, [], i, h, hk => by simp at h
  | e :: L, p :: es, i, h, hk => by
    simp only [List.map_cons, List.cons.injEq, Prod.mk.injEq] at h
    obtain ⟨⟨h1, h2⟩, h3⟩ := h
    have ih := ask_p ha L es (i + 1) h3 (fun q hq => hk q (by simp [hq]))
    have he := eq_ptr ha (hk p (by simp))
    simp only [Instr.findAsking, Sem.run_bind, h1, he, Result.andThen]
    by_cases c : a = p.1
    · simp [c, ixp, pkf, h2]
    · simp only [c, decide_false, Bool.false_eq_true, if_false, ih]
      have e1 : ixp (p :: es) a = (ixp es a).map (· + 1) := by show (if a = p.1 then _ else _) = _; rw [if_neg c]
      have e2 : pkf (p :: es) a = pkf es a := by show (if a = p.1 then _ else _) = _; rw [if_neg c]
      rw [e1, e2]
      cases ixp es a with
      | none => rfl
      | some j =>
        cases pkf es a with
        | none => rfl
        | some v =>
          have : i + 1 + j = i + (j + 1) := by omega
          simp [this]
theorem find_p {w : World} {a : Addr} (ha : Nb w a) (L : List MapEntry) (es : List (Addr × Int)) (h : L.map (fun e => (e.key, e.val)) = es.map kvP) (hk : ∀ p ∈ es, Nb w p.1) : (Instr.findKey 71 (.pointer (some a)) L).run Try.prog w = .ok ((ixp es a).bind fun j => (pkf es a).map fun v => (j, .int .i64 v)) w := by
  cases L with
  | nil =>
    have : es = [] := by cases es with | nil => rfl | cons p es => simp at h
    subst this
    simp only [Instr.findKey, Sem.run_bind, run_underlying Try.underlying71, Result.andThen, Instr.findNow]
    rfl
  | cons e L =>
    have q := ask_p ha (e :: L) es 0 h hk
    simp only [Nat.zero_add] at q
    simp only [Instr.findKey, Sem.run_bind, run_underlying Try.underlying71, Result.andThen, Instr.findNow, Instr.sameNow]
    exact q
theorem ixp_pkf (es : List (Addr × Int)) (a : Addr) : (ixp es a).isSome = (pkf es a).isSome := by
  induction es with
  | nil => rfl
  | cons p es ih =>
    have e1 : ixp (p :: es) a = if a = p.1 then some 0 else (ixp es a).map (· + 1) := rfl
    have e2 : pkf (p :: es) a = if a = p.1 then some p.2 else pkf es a := rfl
    rw [e1, e2]
    by_cases c : a = p.1
    · rw [if_pos c, if_pos c]; rfl
    · rw [if_neg c, if_neg c]
      simpa using ih
/-- Numbers of nodes, in memory. -/
structure PMap (w : World) (b : Nat) (F : Addr → Option Int) : Prop where
  mk ::
  ex : ∃ arr clk es, w.heap[b]? = some (.map arr clk) ∧ arr.toList.map (fun e => (e.key, e.val)) = es.map kvP ∧ (∀ p ∈ es, Nb w p.1) ∧ ∀ a, F a = pkf es a
theorem PMap.new (W : World) : PMap (W.alloc (.map #[] 0)) W.heap.size (fun _ => none) := ⟨#[], 0, [], nw_heap W _, rfl, fun _ h => by simp at h, fun _ => rfl⟩
theorem zero_int (w : World) : (zeroValue 3).run Try.prog w = .ok (.int .i64 0) w := by kernel_rfl
theorem look_p {w : World} {b : Nat} {F : Addr → Option Int} (h : PMap w b F) {a : Addr} (ha : Nb w a) (ok : Bool) : (Instr.lookup 84 (.map (some b)) (.pointer (some a)) ok).run Try.prog w = .ok (if ok = true then .tuple #[.int .i64 ((F a).getD 0), .bool (F a).isSome] else .int .i64 ((F a).getD 0)) w := by
  obtain ⟨arr, clk, es, hb, he, hk, hF⟩ := h.ex
  have hg := Go.MapKept.run_getObj_map (P := Try.prog) hb
  have hck := ck_ptr arr.isEmpty a w
  have hfk := find_p ha arr.toList es he hk
  have hz := zero_int w
  have hil := ixp_pkf es a
  rw [hF a]
  simp only [Instr.lookup, Sem.run_bind, run_underlying Try.underlying84, Result.andThen, hg, Sem.run_pure, hck, hfk]
  cases hl : pkf es a with
  | none =>
    have : ixp es a = none := by rw [hl] at hil; simpa using hil
    simp [this, hz, Result.andThen]
  | some v =>
    obtain ⟨i, hi⟩ : ∃ i, ixp es a = some i := by rw [hl] at hil; exact Option.isSome_iff_exists.1 (by simpa using hil)
    simp [hi]
theorem put_obj (w : World) (b : Nat) (o : Obj) : w.grownBy { w with heap := w.heap.setIfInBounds b o } (some b) :=
  ⟨rfl, rfl, rfl, by simp, fun k hk hne => by
    have : b ≠ k := fun e => hne (by rw [e])
    simp [this]⟩
theorem map_modify {α β : Type} (g : α → β) (f : α → α) (c : β) (hf : ∀ x, g (f x) = c) (L : List α) (i : Nat) : (L.modify i f).map g = (L.map g).modify i (fun _ => c) := by
  apply List.ext_getElem?
  intro k
  rw [List.getElem?_map, List.getElem?_modify, List.getElem?_modify, List.getElem?_map]
  cases L[k]? with
  | none => simp
  | some x =>
    simp
    split
    · simp [hf]
    · rfl
theorem nb_keep {w w' : World} {b : Nat} {o : Obj} (hb : w.heap[b]? = some o) (hm : ∀ arr t q, o ≠ .cells arr t q) (hg : w.grownBy w' (some b)) {a : Addr} (h : Nb w a) : Nb w' a := by
  obtain ⟨arr, h⟩ := h
  have hne : a.block ≠ b := fun e => by rw [e, hb] at h; injection h with h; exact hm _ _ _ h
  exact ⟨arr, (hg.block a.block (lt_of h) (by simpa using hne)).trans h⟩
theorem upd_p {w : World} {b : Nat} {F : Addr → Option Int} (h : PMap w b F) {a : Addr} (ha : Nb w a) (v : Int) : ∃ w', (Instr.mapUpdate 84 (.map (some b)) (.pointer (some a)) (.int .i64 v)).run Try.prog w = .ok () w' ∧ PMap w' b (fun x => if x = a then some v else F x) ∧ w.grownBy w' (some b) := by
  obtain ⟨arr, clk, es, hb, he, hk, hF⟩ := h.ex
  have hg := Go.MapKept.run_getObj_map (P := Try.prog) hb
  have hck := ck_ptr false a w
  have hfk := find_p ha arr.toList es he hk
  have hil := ixp_pkf es a
  have hlt : b < w.heap.size := lt_of hb
  have fin : ∀ (arr' : Array MapEntry) (clk' : Nat), arr'.toList.map (fun e => (e.key, e.val)) = (updp es a v).map kvP → (setObj b (.map arr' clk')).run Try.prog w = .ok () { w with heap := w.heap.setIfInBounds b (.map arr' clk') } ∧ PMap { w with heap := w.heap.setIfInBounds b (.map arr' clk') } b (fun x => if x = a then some v else F x) := fun arr' clk' he' => by
    refine ⟨Go.MapKept.run_setObj_map (P := Try.prog) (.map arr' clk') hb, arr', clk', updp es a v, by simp [hlt], he', fun p hp => ?_, fun x => by rw [updp_get, hF x]⟩
    refine nb_keep hb (fun _ _ _ q => by cases q) (put_obj w b _) ?_
    rcases updp_mem es a v p hp with q | q
    · rw [q]; exact ha
    · exact hk p q
  cases hl : pkf es a with
  | none =>
    have hn : ixp es a = none := by rw [hl] at hil; simpa using hil
    obtain ⟨h1, h2⟩ := fin (arr.push { key := .pointer (some a), val := .int .i64 v, born := clk }) (clk + 1) (by rw [updp_none v a es hn]; simp [he])
    refine ⟨_, ?_, h2, put_obj w b _⟩
    rw [hn] at hfk
    simp only [Instr.mapUpdate, Sem.run_bind, run_underlying Try.underlying84, Result.andThen, hg, hck, hfk]
    simpa using h1
  | some x =>
    obtain ⟨i, hi⟩ : ∃ i, ixp es a = some i := by rw [hl] at hil; exact Option.isSome_iff_exists.1 (by simpa using hil)
    obtain ⟨e1, p, hp, hpa⟩ := updp_some v a es i hi
    have hkey : ((arr[i]?).map (·.key)).getD (.pointer (some a)) = .pointer (some a) := by
      have h1 : (arr.toList.map (fun e => (e.key, e.val)))[i]? = some (kvP p) := by rw [he, List.getElem?_map, hp]; rfl
      rw [List.getElem?_map] at h1
      obtain ⟨e, h2, h3⟩ := Option.map_eq_some_iff.1 h1
      have h4 : arr[i]? = some e := by simpa using h2
      rw [h4]
      have := congrArg Prod.fst h3
      simp at this
      simp [this, hpa]
    have hstay : (Instr.keyThatStays (((arr[i]?).map (·.key)).getD (.pointer (some a))) (.pointer (some a))).run Try.prog w = .ok (.pointer (some a)) w := by
      rw [hkey]
      unfold Instr.keyThatStays
      have : Instr.sameBits 10000 (.pointer (some a)) (.pointer (some a)) = true := by
        simp [Instr.sameBits]
      rw [this]
      simp
    obtain ⟨h1, h2⟩ := fin (arr.modify i fun e => { e with key := .pointer (some a), val := .int .i64 v }) clk (by
      rw [e1, Array.toList_modify, map_modify (fun e : MapEntry => (e.key, e.val)) _ (Value.pointer (some a), Value.int .i64 v) (fun x => rfl), he, map_modify kvP _ (Value.pointer (some a), Value.int .i64 v) (fun x => rfl)])
    refine ⟨_, ?_, h2, put_obj w b _⟩
    rw [hi, hl] at hfk
    simp only [Instr.mapUpdate, Sem.run_bind, run_underlying Try.underlying84, Result.andThen, hg, hck, hfk]
    simp only [Option.bind_some, Option.map_some, Sem.run_bind, hstay, Result.andThen]
    exact h1
end Go.Proofs.Ythlkbijpphdblaa
