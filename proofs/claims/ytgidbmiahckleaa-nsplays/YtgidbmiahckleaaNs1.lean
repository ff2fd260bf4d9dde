/- What a scope tells: Space, Resolve and what they lean on. -/
import Derived.Test.YtgidbmiahckleaaMap
import Derived.Test.YtgidbmiahckleaaIdx
namespace Go.Proofs.Ytgidbmiahckleaa
open Go.RowKit
set_option linter.unusedVariables false

def xmlB : ByteArray := ⟨#[120, 109, 108]⟩
def XML : ByteArray := ⟨#[104, 116, 116, 112, 58, 47, 47, 119, 119, 119, 46, 119, 51, 46, 111, 114, 103, 47, 88, 77, 76, 47, 49, 57, 57, 56, 47, 110, 97, 109, 101, 115, 112, 97, 99, 101]⟩
/-- What is bound, as the map has it. -/
def bnd (l : List (ByteArray × ByteArray)) : List (ByteArray × Value) := l.map fun p => (p.1, .agg #[.string p.2, .bool true])
def spc (l : List (ByteArray × ByteArray)) (s : ByteArray) : Option ByteArray := (l.find? (fun p => s == p.1)).map (·.2)
theorem lk_bnd (l : List (ByteArray × ByteArray)) (s : ByteArray) : lk (bnd l) s = (spc l s).map fun sp => .agg #[.string sp, .bool true] := by
  induction l with
  | nil => rfl
  | cons p l ih =>
    unfold lk bnd spc at *
    rw [List.map_cons, List.find?_cons, List.find?_cons]
    cases hq : (s == p.1) with
    | true => simp
    | false => simpa using ih
def spaceS (l : List (ByteArray × ByteArray)) (s : ByteArray) : ByteArray × Bool :=
  if s = xmlB then (XML, true) else match spc l s with
    | some sp => (sp, true)
    | none => (⟨#[]⟩, s.toList.isEmpty)
theorem tl_eq (a b : ByteArray) : a.toList = b.toList ↔ a = b := by
  constructor
  · intro h
    rw [Lib.toList_data, Lib.toList_data] at h
    exact ByteArray.ext (Array.toList_inj.1 h)
  · rintro rfl; rfl
theorem tl_mk (a : Array UInt8) : (⟨a⟩ : ByteArray).toList = a.toList := Lib.toList_data _
/-- A map of what is bound: none is there yet, or it lies in a block. -/
def NowAt (w : World) (v : Value) (l : List (ByteArray × ByteArray)) : Prop := (v = .map none ∧ l = []) ∨ ∃ b, v = .map (some b) ∧ MapAt w b (bnd l)
theorem now_look {w : World} {v : Value} {l : List (ByteArray × ByteArray)} (h : NowAt w v l) (s : ByteArray) : (Instr.lookup 78 v (.string s) false).run Try.prog w = .ok (match spc l s with | some sp => .agg #[.string sp, .bool true] | none => .agg #[.string ⟨#[]⟩, .bool false]) w := by
  rcases h with ⟨rfl, rfl⟩ | ⟨b, rfl, hm⟩
  · exact look_nil w s false
  · rw [look_map hm s false, lk_bnd]
    cases spc l s <;> rfl
/-- The scope's block. -/
abbrev ScB (w : World) (P : Nat) (nv hv : Value) : Prop := w.heap[P]? = some (.cells #[nv, hv] 81 (0, 0))
theorem sc_cell {w : World} {P i : Nat} {nv hv : Value} (h : ScB w P nv hv) : w.cell? ⟨P, i, none⟩ = (#[nv, hv] : Array Value)[i]? := by simp [World.cell?, h]
set_option maxRecDepth 100000 in
theorem space_s {w : World} {P : Nat} {nv hv : Value} {l : List (ByteArray × ByteArray)} (hP : ScB w P nv hv) (hN : NowAt w nv l) (s : ByteArray) :
    Calls Try.prog 18 #[.pointer (some ⟨P, 0, none⟩), .string s] w fun e w' => e = .returned (.tuple #[.string (spaceS l s).1, .bool (spaceS l s).2]) ∧ Below w.heap.size w w' := by
  have c0 : w.cell? ⟨P, 0, none⟩ = some nv := sc_cell (i := 0) hP
  have hlk := now_look hN s
  unfold spaceS
  have hnv : ∃ o, nv = .map o := by rcases hN with ⟨rfl, _⟩ | ⟨b, rfl, _⟩ <;> exact ⟨_, rfl⟩
  obtain ⟨o, rfl⟩ := hnv
  by_cases hx : s = xmlB
  · rw [if_pos hx]
    subst hx
    unfold xmlB
    clear hlk
    go_enter Try.func18, Try.ntmps18
    go_wp2_with fail
    go_ret2
    exact ⟨rfl, Below.refl _ _⟩
  · rw [if_neg hx]
    have hx1 : ¬ s.toList = (⟨#[120, 109, 108]⟩ : ByteArray).toList := fun q => hx ((tl_eq _ _).1 q)
    have hx2 : ¬ s.toList = [120, 109, 108] := fun q => hx1 (by rw [q, tl_mk])
    have hx3 : (s.toList == [120, 109, 108]) = false := by simpa using hx2
    have hP' : P < w.heap.size := World.block_lt_of_cell? w _ c0
    cases hs : spc l s with
    | some sp =>
      rw [hs] at hlk
      dsimp only at hlk
      go_enter Try.func18, Try.ntmps18
      go_wp2_with fail
      go_ret2
      exact ⟨rfl, (Below.refl _ _).alloc (Nat.le_refl _) _⟩
    | none =>
      rw [hs] at hlk
      dsimp only at hlk
      go_enter Try.func18, Try.ntmps18
      go_wp2_with fail
      go_ret2
      exact ⟨rfl, (Below.refl _ _).alloc (Nat.le_refl _) _⟩
theorem MapAt.below {w w' : World} {b : Nat} {es : List (ByteArray × Value)} (h : MapAt w b es) (hb : Below w.heap.size w w') : MapAt w' b es := by
  obtain ⟨arr, clk, h1, h2⟩ := h
  exact ⟨arr, clk, (hb.block b (Array.getElem?_eq_some_iff.1 h1).1).trans h1, h2⟩
theorem NowAt.below {w w' : World} {v : Value} {l : List (ByteArray × ByteArray)} (h : NowAt w v l) (hb : Below w.heap.size w w') : NowAt w' v l := by
  rcases h with h | ⟨b, h1, h2⟩
  · exact .inl h
  · exact .inr ⟨b, h1, h2.below hb⟩
theorem ScB.below {w w' : World} {P : Nat} {nv hv : Value} (h : ScB w P nv hv) (hb : Below w.heap.size w w') : ScB w' P nv hv := (hb.block P (Array.getElem?_eq_some_iff.1 h).1).trans h
/-- What a name stands for: its space, its local part, the error. -/
def resS (l : List (ByteArray × ByteArray)) (s : ByteArray) : ByteArray × ByteArray × Int :=
  if (qn s).2.2 = false then (⟨#[]⟩, ⟨#[]⟩, 2) else if (spaceS l (qn s).1).2 = false then (⟨#[]⟩, ⟨#[]⟩, 4) else ((spaceS l (qn s).1).1, (qn s).2.1, 0)
theorem nw_heap (w : World) (o : Obj) : (w.alloc o).heap[w.heap.size]? = some o := (Go.MapKept.heap_alloc w o).1
theorem bset {w : World} {X i : Nat} {t : TypeId} {cs : Array Value} (h : w.heap[X]? = some (.cells cs t (0, 0))) (u : Value) : (w.setCell ⟨X, i, none⟩ u).heap[X]? = some (.cells (cs.setIfInBounds i u) t (0, 0)) := by
  simp only [World.setCell, Array.getElem?_modify]
  rw [if_pos trivial, h]
  simp
theorem set2 {N X : Nat} {w w2 : World} {x y : Value} (hb : Below N w w2) (hX : N ≤ X) (h : w2.heap[X]? = some (.cells #[x, y] 37 (0, 0))) (a b : Value) :
    ((w2.setCell ⟨X, 0, none⟩ a).setCell ⟨X, 1, none⟩ b).cell? ⟨X, 0, none⟩ = some a ∧ ((w2.setCell ⟨X, 0, none⟩ a).setCell ⟨X, 1, none⟩ b).cell? ⟨X, 1, none⟩ = some b ∧ Below N w ((w2.setCell ⟨X, 0, none⟩ a).setCell ⟨X, 1, none⟩ b) := by
  have h2 := bset (i := 1) (bset (i := 0) h a) b
  refine ⟨?_, ?_, (hb.setCell (p := ⟨X, 0, none⟩) hX a).setCell (p := ⟨X, 1, none⟩) hX b⟩
  · simp only [World.cell?, h2]; rfl
  · simp only [World.cell?, h2]; rfl
set_option maxRecDepth 100000 in
set_option maxHeartbeats 1600000 in
theorem resolve_s {w : World} {P : Nat} {nv hv : Value} {l : List (ByteArray × ByteArray)} (hP : ScB w P nv hv) (hN : NowAt w nv l) (s : ByteArray) (hs : s.size ≤ maxLen) :
    Calls Try.prog 16 #[.pointer (some ⟨P, 0, none⟩), .string s] w fun e w' => e = .returned (.tuple #[.agg #[.string (resS l s).1, .string (resS l s).2.1], .int .i64 (resS l s).2.2]) ∧ Below w.heap.size w w' := by
  have hb0 : Below w.heap.size w (w.alloc (.cells #[.string ⟨#[]⟩, .string ⟨#[]⟩] 37)) := (Below.refl _ _).alloc (Nat.le_refl _) _
  have hz0 : (w.alloc (.cells #[.string ⟨#[]⟩, .string ⟨#[]⟩] 37)).heap.size = w.heap.size + 1 := by simp
  have hnw := nw_heap w (.cells #[.string ⟨#[]⟩, .string ⟨#[]⟩] 37)
  have HH : Hid _ := And.intro hP (And.intro hN (And.intro hb0 hnw))
  clear hP hN hb0 hnw
  have HQ := fun W => qname_any s W hs
  have hR : resS l s = if (qn s).2.2 = false then (⟨#[]⟩, ⟨#[]⟩, 2) else if (spaceS l (qn s).1).2 = false then (⟨#[]⟩, ⟨#[]⟩, 4) else ((spaceS l (qn s).1).1, (qn s).2.1, 0) := rfl
  generalize resS l s = R at *
  generalize qn s = q at *
  obtain ⟨pf, lo, ok⟩ := q
  dsimp only at *
  have HQ2 : Hid _ := HQ
  have HR : Hid _ := hR
  clear HQ hR
  go_enter Try.func16, Try.ntmps16
  go_wp2_with fail
  refine Calls.mono (HQ2.out _) ?_
  rintro e w2 ⟨rfl, hb2⟩
  have hblk : w2.heap[w.heap.size]? = some (.cells #[.string ⟨#[]⟩, .string ⟨#[]⟩] 37 (0, 0)) := (hb2.block _ (by rw [hz0]; omega)).trans HH.out.2.2.2
  have hbw2 := HH.out.2.2.1.trans (hb2.mono (by omega))
  have hz2 := hb2.size
  have d0 : w2.cell? ⟨w.heap.size, 0, none⟩ = some (.string ⟨#[]⟩) := by simp [World.cell?, hblk]
  have d1 : w2.cell? ⟨w.heap.size, 1, none⟩ = some (.string ⟨#[]⟩) := by simp [World.cell?, hblk]
  have e0 : w2.frozen? ⟨w.heap.size, 0, none⟩ = false := by simp [World.frozen?, hblk]
  have e1 : w2.frozen? ⟨w.heap.size, 1, none⟩ = false := by simp [World.frozen?, hblk]
  have H2 : Hid _ := And.intro hbw2 hblk
  clear hb2 hblk hbw2
  cases ok
  · go_wp2_with fail
    obtain ⟨t0, t1, tb⟩ := set2 H2.out.1 (Nat.le_refl _) H2.out.2 (.string ⟨#[]⟩) (.string ⟨#[]⟩)
    generalize ((w2.setCell ⟨w.heap.size, 0, none⟩ (.string ⟨#[]⟩)).setCell ⟨w.heap.size, 1, none⟩ (.string ⟨#[]⟩)) = W5 at *
    exact bodyPost_ret (v := .tuple #[.agg #[.string ⟨#[]⟩, .string ⟨#[]⟩], .int .i64 2]) (by simp [results, Try.results16, go_sem, t0, t1]) rfl ⟨by rw [HR.out]; rfl, tb⟩
  · have HS := space_s (HH.out.1.below H2.out.1) (HH.out.2.1.below H2.out.1) pf
    generalize spaceS l pf = q at *
    obtain ⟨sp, ok2⟩ := q
    dsimp only at *
    have HS2 : Hid _ := HS
    clear HS
    go_wp2_with fail
    refine Calls.mono HS2.out ?_
    rintro e w3 ⟨rfl, hb3⟩
    have hblk3 : w3.heap[w.heap.size]? = some (.cells #[.string ⟨#[]⟩, .string ⟨#[]⟩] 37 (0, 0)) := (hb3.block _ (by omega)).trans H2.out.2
    have hbw3 := H2.out.1.trans (hb3.mono (by omega))
    have g0 : w3.cell? ⟨w.heap.size, 0, none⟩ = some (.string ⟨#[]⟩) := by simp [World.cell?, hblk3]
    have g1 : w3.cell? ⟨w.heap.size, 1, none⟩ = some (.string ⟨#[]⟩) := by simp [World.cell?, hblk3]
    have k0 : w3.frozen? ⟨w.heap.size, 0, none⟩ = false := by simp [World.frozen?, hblk3]
    have k1 : w3.frozen? ⟨w.heap.size, 1, none⟩ = false := by simp [World.frozen?, hblk3]
    have H3 : Hid _ := And.intro hbw3 hblk3
    clear hb3 hblk3 hbw3 d0 d1 e0 e1
    cases ok2
    · go_wp2_with fail
      obtain ⟨t0, t1, tb⟩ := set2 H3.out.1 (Nat.le_refl _) H3.out.2 (.string ⟨#[]⟩) (.string ⟨#[]⟩)
      generalize ((w3.setCell ⟨w.heap.size, 0, none⟩ (.string ⟨#[]⟩)).setCell ⟨w.heap.size, 1, none⟩ (.string ⟨#[]⟩)) = W5 at *
      exact bodyPost_ret (v := .tuple #[.agg #[.string ⟨#[]⟩, .string ⟨#[]⟩], .int .i64 4]) (by simp [results, Try.results16, go_sem, t0, t1]) rfl ⟨by rw [HR.out]; rfl, tb⟩
    · go_wp2_with fail
      obtain ⟨t0, t1, tb⟩ := set2 H3.out.1 (Nat.le_refl _) H3.out.2 (.string sp) (.string lo)
      generalize ((w3.setCell ⟨w.heap.size, 0, none⟩ (.string sp)).setCell ⟨w.heap.size, 1, none⟩ (.string lo)) = W5 at *
      exact bodyPost_ret (v := .tuple #[.agg #[.string sp, .string lo], .int .i64 0]) (by simp [results, Try.results16, go_sem, t0, t1]) rfl ⟨by rw [HR.out]; rfl, tb⟩
end Go.Proofs.Ytgidbmiahckleaa
