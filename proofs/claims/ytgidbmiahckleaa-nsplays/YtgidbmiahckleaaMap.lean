/- Maps with string keys, as lists of pairs. -/
import Derived.Test.YtgidbmiahckleaaProg
import Derived.WalkKit
import Derived.WalkSpells
import Derived.Below
import Derived.MapKept
namespace Go.Proofs.Ytgidbmiahckleaa
open Go.RowKit
set_option linter.unusedVariables false

/-- A map in memory, its entries in their order. -/
def Bok (arr : Array MapEntry) (clk : Nat) : Prop := (arr.toList.map (·.born)).Nodup ∧ ∀ x ∈ arr.toList, x.born < clk
def MapAt (w : World) (b : Nat) (es : List (ByteArray × Value)) : Prop :=
  ∃ arr clk, w.heap[b]? = some (.map arr clk) ∧ arr.toList.map (fun e => (e.key, e.val)) = es.map (fun p => (Value.string p.1, p.2)) ∧ Bok arr clk
/-- What stands at a key. -/
def lk (es : List (ByteArray × Value)) (s : ByteArray) : Option Value := (es.find? (fun p => s == p.1)).map (·.2)
def ixk : List (ByteArray × Value) → ByteArray → Option Nat
  | [], _ => none
  | p :: es, s => if (s == p.1) = true then some 0 else (ixk es s).map (· + 1)
theorem find_str (s : ByteArray) : ∀ (L : List MapEntry) (es : List (ByteArray × Value)) (k : Nat), L.map (fun e => (e.key, e.val)) = es.map (fun p => (Value.string p.1, p.2)) →
    Instr.findNow .string (.string s) L k = some ((ixk es s).bind fun i => (lk es s).map fun v => (k + i, v))
  | [], [], k, h => rfl
  | [], p :: es, k, h => by simp at h
  | e :: L, [], k, h => by simp at h
  | e :: L, p :: es, k, h => by
    simp at h
    obtain ⟨⟨h1, h2⟩, h3⟩ := h
    have ih := find_str s L es (k + 1) (by simpa using h3)
    rw [Instr.findNow, h1, Instr.sameNow]
    cases hq : (s == p.1) with
    | true => simp [ixk, lk, hq, h2]
    | false =>
      simp only [ih]
      simp [ixk, lk, hq]
      cases ixk es s with
      | none => rfl
      | some i => simp; cases es.find? (fun p => s == p.1) <;> simp; omega
theorem ixk_lk (es : List (ByteArray × Value)) (s : ByteArray) : (ixk es s).isSome = (lk es s).isSome := by
  induction es with
  | nil => rfl
  | cons p es ih =>
    cases hq : (s == p.1) with
    | true => simp [ixk, lk, hq]
    | false =>
      simp [ixk, lk, hq] at ih ⊢
      exact ih
theorem zero83 (w : World) : (zeroValue 83).run Try.prog w = .ok (.agg #[.string ⟨#[]⟩, .bool false]) w := by kernel_rfl
abbrev zB : Value := .agg #[.string ⟨#[]⟩, .bool false]
theorem look_map {w : World} {b : Nat} {es : List (ByteArray × Value)} (h : MapAt w b es) (s : ByteArray) (ok : Bool) :
    (Instr.lookup 78 (.map (some b)) (.string s) ok).run Try.prog w = .ok (if ok = true then .tuple #[(lk es s).getD zB, .bool (lk es s).isSome] else (lk es s).getD zB) w := by
  obtain ⟨arr, clk, hb, he, _⟩ := h
  have hf := find_str s arr.toList es 0 he
  have hg := Go.MapKept.run_getObj_map (P := Try.prog) hb
  have hk : (Instr.checkKey arr.isEmpty 10000 9 (.string s)).run Try.prog w = .ok () w := Go.MapKept.run_checkKey Try.underlying9 (by simp [Go.MapKept.IsKey]) _ 9999
  have hfk := Go.MapKept.run_findKey (P := Try.prog) (w := w) Try.underlying9 hf
  have hz := zero83 w
  have hil := ixk_lk es s
  simp only [Instr.lookup, Sem.run_bind, run_underlying Try.underlying78, Result.andThen, hg, Sem.run_pure, hk, hfk]
  cases hl : lk es s with
  | none =>
    have : ixk es s = none := by rw [hl] at hil; simpa using hil
    simp [this, hz, Result.andThen]
  | some v =>
    obtain ⟨i, hi⟩ : ∃ i, ixk es s = some i := by rw [hl] at hil; exact Option.isSome_iff_exists.1 (by simpa using hil)
    simp [hi]
theorem look_nil (w : World) (s : ByteArray) (ok : Bool) : (Instr.lookup 78 (.map none) (.string s) ok).run Try.prog w = .ok (if ok = true then .tuple #[zB, .bool false] else zB) w := by
  have hk : (Instr.checkKey (#[] : Array MapEntry).isEmpty 10000 9 (.string s)).run Try.prog w = .ok () w := Go.MapKept.run_checkKey Try.underlying9 (by simp [Go.MapKept.IsKey]) _ 9999
  have hfk := Go.MapKept.run_findKey (P := Try.prog) (w := w) (l := (#[] : Array MapEntry).toList) Try.underlying9 (find_str s [] [] 0 rfl)
  have hz := zero83 w
  simp only [Instr.lookup, Sem.run_bind, run_underlying Try.underlying78, Result.andThen, Sem.run_pure, hk, hfk]
  simp [ixk, hz, Result.andThen]
/-- What is stored at a key. -/
def upd : List (ByteArray × Value) → ByteArray → Value → List (ByteArray × Value)
  | [], s, v => [(s, v)]
  | p :: es, s, v => if (s == p.1) = true then (s, v) :: es else p :: upd es s v
theorem upd_none (v : Value) (s : ByteArray) : ∀ es, ixk es s = none → upd es s v = es ++ [(s, v)]
  | [], h => rfl
  | p :: es, h => by
    cases hq : (s == p.1) with
    | true => simp [ixk, hq] at h
    | false =>
      simp [ixk, hq] at h
      simp [upd, hq, upd_none v s es h]
theorem upd_some (v : Value) (s : ByteArray) : ∀ es i, ixk es s = some i → upd es s v = es.modify i (fun _ => (s, v))
  | [], i, h => by simp [ixk] at h
  | p :: es, i, h => by
    cases hq : (s == p.1) with
    | true =>
      simp [ixk, hq] at h
      subst h
      simp [upd, hq]
    | false =>
      simp [ixk, hq] at h
      obtain ⟨k, hk, rfl⟩ := h
      simp [upd, hq, upd_some v s es k hk]
theorem put_obj (w : World) (b : Nat) (o : Obj) : w.grownBy { w with heap := w.heap.setIfInBounds b o } (some b) :=
  ⟨rfl, rfl, rfl, by simp, fun k hk hne => by
    have : b ≠ k := fun e => hne (by rw [e])
    simp [this]⟩
theorem set_map {w : World} {b clk clk' : Nat} {arr arr' : Array MapEntry} {es' : List (ByteArray × Value)} (hb : w.heap[b]? = some (.map arr clk)) (he : arr'.toList.map (fun e => (e.key, e.val)) = es'.map (fun p => (Value.string p.1, p.2))) (hbo : Bok arr' clk') :
    ∃ w', (setObj b (.map arr' clk')).run Try.prog w = .ok () w' ∧ MapAt w' b es' ∧ w.grownBy w' (some b) := by
  have hlt : b < w.heap.size := (Array.getElem?_eq_some_iff.1 hb).1
  exact ⟨{ w with heap := w.heap.setIfInBounds b (.map arr' clk') }, Go.MapKept.run_setObj_map (P := Try.prog) (.map arr' clk') hb, ⟨arr', clk', by simp [hlt], he, hbo⟩, put_obj w b _⟩
theorem ixk_get (s : ByteArray) : ∀ es i, ixk es s = some i → ∃ p, es[i]? = some p ∧ (s == p.1) = true
  | [], i, h => by simp [ixk] at h
  | p :: es, i, h => by
    cases hq : (s == p.1) with
    | true =>
      simp [ixk, hq] at h
      subst h
      exact ⟨p, rfl, hq⟩
    | false =>
      simp [ixk, hq] at h
      obtain ⟨k, hk, rfl⟩ := h
      obtain ⟨q, h1, h2⟩ := ixk_get s es k hk
      exact ⟨q, by simpa using h1, h2⟩
theorem map_modify {α β : Type} (g : α → β) (f : α → α) (c : β) (hf : ∀ x, g (f x) = c) (L : List α) (i : Nat) : (L.modify i f).map g = (L.map g).modify i (fun _ => c) := by
  apply List.ext_getElem?
  intro k
  rw [List.getElem?_map, List.getElem?_modify, List.getElem?_modify, List.getElem?_map]
  cases L[k]? with
  | none => simp
  | some x =>
    simp
    split
    · simp [hf]
    · rfl
theorem bok_push {arr : Array MapEntry} {clk : Nat} (h : Bok arr clk) (k v : Value) : Bok (arr.push { key := k, val := v, born := clk }) (clk + 1) := by
  obtain ⟨h1, h2⟩ := h
  constructor
  · rw [Array.toList_push, List.map_append, List.nodup_append]
    refine ⟨h1, by simp, ?_⟩
    intro a ha b hb
    simp at hb
    rw [List.mem_map] at ha
    obtain ⟨x, hx, rfl⟩ := ha
    have := h2 x hx
    omega
  · intro x hx
    rw [Array.toList_push, List.mem_append] at hx
    rcases hx with hx | hx
    · have := h2 x hx; omega
    · simp at hx; subst hx; simp
theorem bok_mod {arr : Array MapEntry} {clk : Nat} (h : Bok arr clk) (i : Nat) (k v : Value) : Bok (arr.modify i fun e => { e with key := k, val := v }) clk := by
  have e : (arr.modify i fun e => { e with key := k, val := v }).toList.map (·.born) = arr.toList.map (·.born) := by
    apply List.ext_getElem?
    intro j
    simp only [Array.toList_modify, List.getElem?_map, List.getElem?_modify]
    cases arr.toList[j]? with
    | none => simp
    | some x => simp; split <;> rfl
  refine ⟨by rw [e]; exact h.1, fun x hx => ?_⟩
  have : x.born ∈ arr.toList.map (·.born) := by rw [← e]; exact List.mem_map_of_mem hx
  rw [List.mem_map] at this
  obtain ⟨y, hy, hyx⟩ := this
  rw [← hyx]
  exact h.2 y hy
theorem bok_sub {arr arr' : Array MapEntry} {clk : Nat} (h : Bok arr clk) (hs : arr'.toList.Sublist arr.toList) : Bok arr' clk :=
  ⟨(hs.map _).nodup h.1, fun x hx => h.2 x (hs.subset hx)⟩
theorem upd_map {w : World} {b : Nat} {es : List (ByteArray × Value)} (h : MapAt w b es) (s : ByteArray) (v : Value) :
    ∃ w', (Instr.mapUpdate 78 (.map (some b)) (.string s) v).run Try.prog w = .ok () w' ∧ MapAt w' b (upd es s v) ∧ w.grownBy w' (some b) := by
  obtain ⟨arr, clk, hb, he, hbo⟩ := h
  have hf := find_str s arr.toList es 0 he
  have hg := Go.MapKept.run_getObj_map (P := Try.prog) hb
  have hk : (Instr.checkKey false 10000 9 (.string s)).run Try.prog w = .ok () w := Go.MapKept.run_checkKey Try.underlying9 (by simp [Go.MapKept.IsKey]) _ 9999
  have hfk := Go.MapKept.run_findKey (P := Try.prog) (w := w) Try.underlying9 hf
  have hil := ixk_lk es s
  cases hl : lk es s with
  | none =>
    have hn : ixk es s = none := by rw [hl] at hil; simpa using hil
    obtain ⟨w', h1, h2, h3⟩ := set_map (clk' := clk + 1) (arr' := arr.push { key := .string s, val := v, born := clk }) (es' := upd es s v) hb (by rw [upd_none v s es hn]; simp [he]) (bok_push hbo _ _)
    refine ⟨w', ?_, h2, h3⟩
    rw [hn] at hfk
    simp only [Instr.mapUpdate, Sem.run_bind, run_underlying Try.underlying78, Result.andThen, hg, hk, hfk]
    simpa using h1
  | some x =>
    obtain ⟨i, hi⟩ : ∃ i, ixk es s = some i := by rw [hl] at hil; exact Option.isSome_iff_exists.1 (by simpa using hil)
    obtain ⟨p, hp, hsp⟩ := ixk_get s es i hi
    have hps : p.1 = s := ((Go.MapKept.bytes_beq s p.1).1 hsp).symm
    have hlen : arr.size = es.length := by have := congrArg List.length he; simpa using this
    have hil : i < es.length := (List.getElem?_eq_some_iff.1 hp).1
    have hkey : ((arr[i]?).map (·.key)).getD (.string s) = .string s := by
      have h1 : (arr.toList.map (fun e => (e.key, e.val)))[i]? = some (Value.string p.1, p.2) := by rw [he, List.getElem?_map, hp]; rfl
      rw [List.getElem?_map] at h1
      obtain ⟨e, h2, h3⟩ := Option.map_eq_some_iff.1 h1
      have h4 : arr[i]? = some e := by simpa using h2
      rw [h4]
      have := congrArg Prod.fst h3
      simp at this
      simp [this, hps]
    have hstay : (Instr.keyThatStays (((arr[i]?).map (·.key)).getD (.string s)) (.string s)).run Try.prog w = .ok (.string s) w := by
      rw [hkey]
      unfold Instr.keyThatStays
      have : Instr.sameBits 10000 (.string s) (.string s) = true := by
        simp only [Instr.sameBits]
        exact (Go.MapKept.bytes_beq s s).2 rfl
      rw [this]
      simp
    obtain ⟨w', h1, h2, h3⟩ := set_map (clk' := clk) (arr' := arr.modify i fun e => { e with key := .string s, val := v }) (es' := upd es s v) hb (by
      rw [upd_some v s es i hi, Array.toList_modify, map_modify (fun e : MapEntry => (e.key, e.val)) _ (Value.string s, v) (fun x => rfl), he, map_modify (fun p : ByteArray × Value => (Value.string p.1, p.2)) _ (Value.string s, v) (fun x => rfl)]) (bok_mod hbo _ _ _)
    refine ⟨w', ?_, h2, h3⟩
    rw [hi, hl] at hfk
    simp only [Instr.mapUpdate, Sem.run_bind, run_underlying Try.underlying78, Result.andThen, hg, hk, hfk]
    simp only [Option.bind_some, Option.map_some, Nat.zero_add, Sem.run_bind, hstay, Result.andThen]
    exact h1
/-- What is left without a key. -/
def del : List (ByteArray × Value) → ByteArray → List (ByteArray × Value)
  | [], s => []
  | p :: es, s => if (s == p.1) = true then es else p :: del es s
theorem map_erase {α β : Type} (g : α → β) : ∀ (L : List α) (i : Nat), (L.eraseIdx i).map g = (L.map g).eraseIdx i
  | [], i => by simp
  | x :: L, 0 => by simp
  | x :: L, i + 1 => by simp [map_erase g L i]
theorem del_some (s : ByteArray) : ∀ es i, ixk es s = some i → del es s = es.eraseIdx i
  | [], i, h => by simp [ixk] at h
  | p :: es, i, h => by
    cases hq : (s == p.1) with
    | true =>
      simp [ixk, hq] at h
      subst h
      simp [del, hq]
    | false =>
      simp [ixk, hq] at h
      obtain ⟨k, hk, rfl⟩ := h
      simp [del, hq, del_some s es k hk]
theorem del_none (s : ByteArray) : ∀ es, ixk es s = none → del es s = es
  | [], h => rfl
  | p :: es, h => by
    cases hq : (s == p.1) with
    | true => simp [ixk, hq] at h
    | false =>
      simp [ixk, hq] at h
      simp [del, hq, del_none s es h]
theorem del_map {w : World} {b : Nat} {es : List (ByteArray × Value)} (h : MapAt w b es) (s : ByteArray) (t : TypeId) :
    ∃ w', (Builtin.delete_ #[78, 9] t #[.map (some b), .string s]).run Try.prog w = .ok (.tuple #[]) w' ∧ MapAt w' b (del es s) ∧ w.grownBy w' (some b) := by
  obtain ⟨arr, clk, hb, he, hbo⟩ := h
  have hf := find_str s arr.toList es 0 he
  have hg := Go.MapKept.run_getObj_map (P := Try.prog) hb
  have hk : (Instr.checkKey arr.isEmpty 10000 9 (.string s)).run Try.prog w = .ok () w := Go.MapKept.run_checkKey Try.underlying9 (by simp [Go.MapKept.IsKey]) _ 9999
  have hfk := Go.MapKept.run_findKey (P := Try.prog) (w := w) Try.underlying9 hf
  have hil := ixk_lk es s
  have e0 : (#[78, 9] : Array TypeId)[0]? = some 78 := rfl
  have e1 : (#[.map (some b), .string s] : Array Value)[0]? = some (.map (some b)) := rfl
  have e2 : (#[.map (some b), .string s] : Array Value)[1]? = some (.string s) := rfl
  cases hl : lk es s with
  | none =>
    have hn : ixk es s = none := by rw [hl] at hil; simpa using hil
    obtain ⟨w', h1, h2, h3⟩ := set_map (clk' := clk) (arr' := arr) (es' := del es s) hb (by rw [del_none s es hn]; exact he) hbo
    refine ⟨w', ?_, h2, h3⟩
    rw [hn] at hfk
    unfold Builtin.delete_
    simp only [e0, e1, e2, Sem.run_bind, run_underlying Try.underlying78, Result.andThen, hg, hk, hfk, Option.bind_none, h1, Sem.run_pure]
  | some x =>
    obtain ⟨i, hi⟩ : ∃ i, ixk es s = some i := by rw [hl] at hil; exact Option.isSome_iff_exists.1 (by simpa using hil)
    have hlen : arr.size = es.length := by have := congrArg List.length he; simpa using this
    obtain ⟨p, hp, _⟩ := ixk_get s es i hi
    have hlt : i < arr.size := by rw [hlen]; exact (List.getElem?_eq_some_iff.1 hp).1
    obtain ⟨w', h1, h2, h3⟩ := set_map (clk' := clk) (arr' := arr.eraseIdxIfInBounds i) (es' := del es s) hb (by
      rw [del_some s es i hi]
      have : (arr.eraseIdxIfInBounds i).toList = arr.toList.eraseIdx i := by simp [Array.eraseIdxIfInBounds, hlt]
      rw [this, map_erase, he, map_erase]) (bok_sub hbo (by
      have : (arr.eraseIdxIfInBounds i).toList = arr.toList.eraseIdx i := by simp [Array.eraseIdxIfInBounds, hlt]
      rw [this]
      exact List.eraseIdx_sublist _ _))
    refine ⟨w', ?_, h2, h3⟩
    rw [hi, hl] at hfk
    unfold Builtin.delete_
    simp only [e0, e1, e2, Sem.run_bind, run_underlying Try.underlying78, Result.andThen, hg, hk, hfk, Option.bind_some, Option.map_some, Nat.zero_add, h1, Sem.run_pure]
end Go.Proofs.Ytgidbmiahckleaa
