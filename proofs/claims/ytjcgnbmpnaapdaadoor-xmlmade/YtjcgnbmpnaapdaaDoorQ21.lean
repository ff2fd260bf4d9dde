/- strings.Builder over this program: its check, its two writes, its String. -/
import Derived.Shelf.Strings.Builder1
import Derived.Test.YtjcgnbmpnaapdaaDoorQ20
import Derived.Lib.ConvBytes
namespace Go.Proofs.YtjcgnbmpnaapdaaDoor
open Go.RowKit
set_option linter.unusedVariables false

theorem szB : (Tryd.prog.info? 56).map (fun i => i.size) = some 2 := by kernel_rfl
set_option maxRecDepth 100000 in
theorem cc_used (b : Nat) (w : World) (h0 : w.cell? ⟨b, 0, none⟩ = some (.pointer (some ⟨b, 0, none⟩))) :
    Calls Tryd.prog 27 #[.pointer (some ⟨b, 0, none⟩)] w fun e w' => e = .returned (.tuple #[]) ∧ w' = w := by
  obtain ⟨j, hj, _⟩ := Option.map_eq_some_iff.1 szB
  go_enter Tryd.func27, Tryd.ntmps27
  go_wp2
  rw [Lib.run_neq_ptr_same w _ Tryd.underlying54 hj]
  go_wp2
  go_end0
  exact ⟨rfl, rfl⟩
set_option maxRecDepth 100000 in
theorem cc_fresh (b : Nat) (w : World) (h0 : w.cell? ⟨b, 0, none⟩ = some (.pointer none)) (hsh : w.shape? b = some (56, 2)) (hfz : w.frozen? ⟨b, 0, none⟩ = false) :
    Calls Tryd.prog 27 #[.pointer (some ⟨b, 0, none⟩)] w fun e w' => e = .returned (.tuple #[]) ∧ w' = w.setCell ⟨b, 0, none⟩ (.pointer (some ⟨b, 0, none⟩)) := by
  obtain ⟨j, hj, hjs⟩ := Option.map_eq_some_iff.1 szB
  go_enter Tryd.func27, Tryd.ntmps27
  go_wp2
  rw [Lib.run_to_unsafe w ⟨b, 0, none⟩ Tryd.underlying54 Tryd.underlying84 hj (by rw [hjs]; decide) hsh (Nat.zero_lt_succ 1)]
  simp only [Result.andThen]
  rw [Oper.upon_value]
  go_wp2
  rw [run_callFunc_extern Tryd.func33 (by kernel_rfl) (by kernel_rfl) (by kernel_rfl) (e := Extern.AbiNoEscape.same) (by kernel_rfl)]
  rw [Lib.run_noEscape]
  simp only [Result.andThen]
  rw [Oper.upon_value]
  go_wp2
  rw [Lib.run_from_unsafe w ⟨b, 0, none⟩ Tryd.underlying84 Tryd.underlying54 hj hsh (by kernel_rfl)]
  simp only [Result.andThen]
  rw [Oper.upon_value]
  go_wp2
  go_end0
  exact ⟨rfl, rfl⟩
/-- A builder in a block of its own, its row from B on. -/
def BA (B b : Nat) (p : Value) (bs : List Value) (w : World) : Prop := ∃ v, w.heap[b]? = some (.cells #[p, v] 56 (0, 0)) ∧ w.ownsRow B 5 1 v bs.length bs ∧ v.ownBlock ≠ some b
def IsB (B b : Nat) (bs : List Value) (w : World) : Prop := BA B b (.pointer none) bs w ∨ BA B b (.pointer (some ⟨b, 0, none⟩)) bs w
/-- What a write leaves. -/
structure Fb (B b : Nat) (w w' : World) : Prop where
  os : w'.os = w.os
  tape : w'.tape = w.tape
  output : w'.output = w.output
  size : w.heap.size ≤ w'.heap.size
  blk : ∀ k, k < B → k ≠ b → w'.heap[k]? = w.heap[k]?
theorem Fb.refl (B b : Nat) (w : World) : Fb B b w w := ⟨rfl, rfl, rfl, Nat.le_refl _, fun _ _ _ => rfl⟩
theorem Fb.trans {B b : Nat} {u w x : World} (h : Fb B b u w) (k : Fb B b w x) : Fb B b u x := ⟨k.os.trans h.os, k.tape.trans h.tape, k.output.trans h.output, Nat.le_trans h.size k.size, fun i h1 h2 => (k.blk i h1 h2).trans (h.blk i h1 h2)⟩
theorem Fb.set {B b : Nat} {u w : World} (h : Fb B b u w) (i : Nat) (x : Value) : Fb B b u (w.setCell ⟨b, i, none⟩ x) := ⟨h.os, h.tape, h.output, Nat.le_trans h.size (by simp [World.setCell]), fun k h1 h2 => (hset h2).trans (h.blk k h1 h2)⟩
theorem Fb.alloc {B b : Nat} {u w : World} (h : Fb B b u w) (hB : B ≤ w.heap.size) (o : Obj) : Fb B b u (w.alloc o) := ⟨h.os, h.tape, h.output, Nat.le_trans h.size (by simp), fun k h1 h2 => (Below.heap_alloc w o k (by omega)).trans (h.blk k h1 h2)⟩
theorem Fb.grown {B b : Nat} {u w w' : World} {row : Option Nat} (h : Fb B b u w) (hg : w.grownBy w' row) (hB : B ≤ w.heap.size) (hr : ∀ k, row = some k → B ≤ k) : Fb B b u w' := ⟨hg.os.trans h.os, hg.tape.trans h.tape, hg.output.trans h.output, Nat.le_trans h.size hg.size, fun k h1 h2 => (hg.block k (by omega) (fun e => by have := hr k e.symm; omega)).trans (h.blk k h1 h2)⟩
theorem BA.put {B b : Nat} {p v v' : Value} {bs' : List Value} {w : World} (hb : w.heap[b]? = some (.cells #[p, v] 56 (0, 0))) (hown : w.ownsRow B 5 1 v' bs'.length bs') : BA B b p bs' (w.setCell ⟨b, 1, none⟩ v') := by
  have hne : v'.ownBlock ≠ some b := Lib.ownBlock_ne hown hb (by decide)
  refine ⟨v', ?_, ?_, hne⟩
  · have := Bk.set (i := 1) hb v'
    simpa using this
  · exact own_blk hown (fun g e => hset (fun x => hne (by rw [e, x])))
theorem cc_any (B b : Nat) (bs : List Value) (w : World) (h : IsB B b bs w) :
    Calls Tryd.prog 27 #[.pointer (some ⟨b, 0, none⟩)] w fun e w' => e = .returned (.tuple #[]) ∧ BA B b (.pointer (some ⟨b, 0, none⟩)) bs w' ∧ Fb B b w w' := by
  rcases h with ⟨v, hb, ho, hne⟩ | ⟨v, hb, ho, hne⟩
  · refine (cc_fresh b w (by rw [Lib.cell_of_heap hb]; rfl) (by simp [World.shape?, hb]) (Lib.frozen_of_heap hb 0)).mono ?_
    rintro e w' ⟨rfl, rfl⟩
    refine ⟨rfl, ⟨v, by simpa using Bk.set (i := 0) hb (.pointer (some ⟨b, 0, none⟩)), own_blk ho (fun g e => hset (fun x => hne (by rw [e, x]))), hne⟩, (Fb.refl _ _ _).set 0 _⟩
  · refine (cc_used b w (by rw [Lib.cell_of_heap hb]; rfl)).mono ?_
    rintro e w' ⟨rfl, rfl⟩
    exact ⟨rfl, ⟨v, hb, ho, hne⟩, Fb.refl _ _ _⟩
set_option maxRecDepth 100000 in
set_option maxHeartbeats 1600000 in
theorem wb_any (B b : Nat) (bs : List Value) (c : Int) (w : World) (h : IsB B b bs w) (hlen : bs.length + 1 ≤ 1000000000) (hBw : B ≤ w.heap.size) :
    Calls Tryd.prog 21 #[.pointer (some ⟨b, 0, none⟩), .int .u8 c] w fun e w' => e = .returned .nilIface ∧ BA B b (.pointer (some ⟨b, 0, none⟩)) (bs ++ [.int .u8 c]) w' ∧ Fb B b w w' := by
  obtain ⟨i0, hi, hz0, hz1, hz2⟩ := info5p
  go_enter Tryd.func21, Tryd.ntmps21
  go_wp2_with (go_at_call 27; refine (cc_any B b bs _ h).mono ?_)
  rintro e w1 ⟨rfl, h1, hb1⟩
  obtain ⟨v, hbk, hown, hne⟩ := h1
  have c0 : w1.cell? ⟨b, 0, none⟩ = some (.pointer (some ⟨b, 0, none⟩)) := by rw [Lib.cell_of_heap hbk]; rfl
  have c1 : w1.cell? ⟨b, 1, none⟩ = some v := by rw [Lib.cell_of_heap hbk]; rfl
  go_wp2_with (at_builtin; refine wpList_append_own _ rfl _ _ 25 rfl B 5 i0 (.int .u8 0) 1 1 Tryd.underlying25 hi hz0 hz1 hz2 rfl (by decide) _ _ _ rfl (hown.alloc _) ⟨w1.heap.size, 0, none⟩ 1 1 [.int .u8 c] rfl rfl ?c1 ?c2 ?c3 ?c4 ?c5 ?_)
  case c1 =>
    intro j u hj
    match j, hj with
    | 0, hj => simp at hj; subst hj; simp [Addr.add]
  case c2 => intro u hu; simp at hu; subst hu; rfl
  case c3 => unfold maxLen; omega
  case c4 => omega
  case c5 => have := hb1.size; simp; omega
  intro v' w2 hown' hgrow _
  have hlt : b < w1.heap.size := (Array.getElem?_eq_some_iff.1 hbk).1
  have hb2 : w2.heap[b]? = some (.cells #[.pointer (some ⟨b, 0, none⟩), v] 56 (0, 0)) := by
    rw [hgrow.block b (by simp; omega) (fun e => hne e.symm), Lib.alloc_old w1 _ b hlt]
    exact hbk
  have d0 : w2.cell? ⟨b, 0, none⟩ = some (.pointer (some ⟨b, 0, none⟩)) := by rw [Lib.cell_of_heap hb2]; rfl
  have d1 : w2.cell? ⟨b, 1, none⟩ = some v := by rw [Lib.cell_of_heap hb2]; rfl
  have f1 : w2.frozen? ⟨b, 1, none⟩ = false := Lib.frozen_of_heap hb2 1
  obtain ⟨ao, n', cap, rfl⟩ : ∃ ao n' cap, v' = .slice ao n' cap := by
    rcases hown'.2 with ⟨hv, _⟩ | ⟨g, cap, cur, hv, _⟩
    · exact ⟨_, _, _, hv⟩
    · exact ⟨_, _, _, hv⟩
  go_wp2
  go_ret
  refine ⟨rfl, ?_, ?_⟩
  · exact BA.put hb2 (bs' := bs ++ [.int .u8 c]) (by simpa using hown')
  · exact ((hb1.alloc (by have := hb1.size; omega) _).grown hgrow (by have := hb1.size; simp; omega) (fun k hk => (hown.lt k hk).1)).set 1 _
set_option maxRecDepth 100000 in
set_option maxHeartbeats 1600000 in
theorem ws_any (B b : Nat) (bs : List Value) (s : ByteArray) (w : World) (h : IsB B b bs w) (hlen : bs.length + s.size ≤ 1000000000) (hBw : B ≤ w.heap.size) :
    Calls Tryd.prog 20 #[.pointer (some ⟨b, 0, none⟩), .string s] w fun e w' => e = .returned (.tuple #[.int .i64 s.size, .nilIface]) ∧ BA B b (.pointer (some ⟨b, 0, none⟩)) (bs ++ Lib.strCells s) w' ∧ Fb B b w w' := by
  obtain ⟨i0, hi, hz0, hz1, hz2⟩ := info5p
  go_enter Tryd.func20, Tryd.ntmps20
  go_wp2_with (go_at_call 27; refine (cc_any B b bs _ h).mono ?_)
  rintro e w1 ⟨rfl, h1, hb1⟩
  obtain ⟨v, hbk, hown, hne⟩ := h1
  have c0 : w1.cell? ⟨b, 0, none⟩ = some (.pointer (some ⟨b, 0, none⟩)) := by rw [Lib.cell_of_heap hbk]; rfl
  have c1 : w1.cell? ⟨b, 1, none⟩ = some v := by rw [Lib.cell_of_heap hbk]; rfl
  go_wp2_with (at_builtin; refine Lib.wpList_append_own_string _ rfl _ _ 25 9 rfl B 5 i0 Tryd.underlying25 Tryd.underlying9 hi hz0 hz1 hz2 _ _ _ rfl hown s rfl ?c3 ?c4 ?c5 ?_)
  case c3 => unfold maxLen; omega
  case c4 => omega
  case c5 => have := hb1.size; omega
  intro v' w2 hown' hgrow _
  have hlt : b < w1.heap.size := (Array.getElem?_eq_some_iff.1 hbk).1
  have hb2 : w2.heap[b]? = some (.cells #[.pointer (some ⟨b, 0, none⟩), v] 56 (0, 0)) := by
    rw [hgrow.block b hlt (fun e => hne e.symm)]
    exact hbk
  have d0 : w2.cell? ⟨b, 0, none⟩ = some (.pointer (some ⟨b, 0, none⟩)) := by rw [Lib.cell_of_heap hb2]; rfl
  have d1 : w2.cell? ⟨b, 1, none⟩ = some v := by rw [Lib.cell_of_heap hb2]; rfl
  have f1 : w2.frozen? ⟨b, 1, none⟩ = false := Lib.frozen_of_heap hb2 1
  obtain ⟨ao, n', cap, rfl⟩ : ∃ ao n' cap, v' = .slice ao n' cap := by
    rcases hown'.2 with ⟨hv, _⟩ | ⟨g, cap, cur, hv, _⟩
    · exact ⟨_, _, _, hv⟩
    · exact ⟨_, _, _, hv⟩
  go_wp2
  go_ret2
  refine ⟨rfl, ?_, ?_⟩
  · exact BA.put hb2 (bs' := bs ++ Lib.strCells s) (by simpa [Lib.strCells_length] using hown')
  · exact (hb1.grown hgrow (by have := hb1.size; omega) (fun k hk => (hown.lt k hk).1)).set 1 _
def lays169_ren : Go.Shelf.Ren := ⟨fun | 169 => 22 | n => n, fun | 70 => 54 | 9 => 9 | 0 => 0 | 72 => 56 | 37 => 25 | 127 => 73 | 3 => 3 | 5 => 5 | n => n, fun | n => n⟩
theorem lays169 : Go.Proofs.Lays.n169 Tryd.prog lays169_ren := {
  mixed := by kernel_rfl
  f169 := Tryd.func22.trans (congrArg some (by kernel_rfl))
  t0 := Tryd.underlying0
  a0 := Tryd.isAgg0
  z0 := Tryd.sizeOf0
  v0 := Tryd.zeroValue0
  t3 := Tryd.underlying3
  a3 := Tryd.isAgg3
  z3 := Tryd.sizeOf3
  v3 := Tryd.zeroValue3
  t9 := Tryd.underlying9
  a9 := Tryd.isAgg9
  z9 := Tryd.sizeOf9
  v9 := Tryd.zeroValue9
  t37 := Tryd.underlying25
  a37 := Tryd.isAgg25
  z37 := Tryd.sizeOf25
  v37 := Tryd.zeroValue25
  t70 := Tryd.underlying54
  a70 := Tryd.isAgg54
  z70 := Tryd.sizeOf54
  v70 := Tryd.zeroValue54
  t72 := Tryd.underlying56
  a72 := Tryd.isAgg56
  z72 := Tryd.sizeOf56
  v72 := Tryd.zeroValue56
  t127 := Tryd.underlying73
  a127 := Tryd.isAgg73
  z127 := Tryd.sizeOf73
  v127 := Tryd.zeroValue73 }
theorem bldExtra : Go.Proofs.Builder.Extra Tryd.prog lays169_ren := {
  sizeBuilder := by kernel_rfl
  liesBuilder := by kernel_rfl
  t5 := Tryd.underlying5
  a5 := Tryd.isAgg5
  z5 := Tryd.sizeOf5
  v5 := Tryd.zeroValue5
  infoByte := by kernel_rfl
  cellsByte := by kernel_rfl
  sizeByte := by kernel_rfl
  neB5 := by decide }
theorem bstr (B b : Nat) (l : List UInt8) (w : World) (h : Lib.IsBuilder 56 5 B b (Lib.byteCells l) w) (hBw : B ≤ w.heap.size) :
    Calls Tryd.prog 22 #[.pointer (some ⟨b, 0, none⟩)] w fun e w' => e = .returned (.string ⟨l.toArray⟩) ∧ Below B w w' := Any.Builder_String_any lays169 bldExtra B b l w h hBw
end Go.Proofs.YtjcgnbmpnaapdaaDoor
namespace Go.Proofs.YtjcgnbmpnaapdaaDoor
open Go.RowKit
set_option linter.unusedVariables false

def escO (attr : Bool) (c : UInt8) : List UInt8 :=
  if c = 38 then [38, 97, 109, 112, 59] else if c = 60 then [38, 108, 116, 59] else if c = 62 then [38, 103, 116, 59] else if c = 13 then [38, 35, 120, 68, 59]
  else if attr = false then [] else if c = 34 then [38, 113, 117, 111, 116, 59] else if c = 9 then [38, 35, 120, 57, 59] else if c = 10 then [38, 35, 120, 65, 59] else []
def escP (attr : Bool) (c : UInt8) : List UInt8 := if escO attr c = [] then [c] else escO attr c
def escU (attr : Bool) (l : List UInt8) : List UInt8 := l.flatMap (escP attr)
theorem u8ne {c d : UInt8} (h : c ≠ d) : ¬ ((c.toNat : Int) = (d.toNat : Int)) := by
  intro e
  exact h (UInt8.toNat_inj.1 (by omega))
theorem escaped_s (attr : Bool) (c : UInt8) (w : World) : Calls Tryd.prog 19 #[.int .u8 c.toNat, .bool attr] w fun e w' => e = .returned (.string ⟨(escO attr c).toArray⟩) ∧ w' = w := by
  by_cases h1 : c = 38
  · subst h1; cases attr <;> (go_enter Tryd.func19, Tryd.ntmps19; go_wp2; go_ret; exact ⟨rfl, rfl⟩)
  by_cases h2 : c = 60
  · subst h2; cases attr <;> (go_enter Tryd.func19, Tryd.ntmps19; go_wp2; go_ret; exact ⟨rfl, rfl⟩)
  by_cases h3 : c = 62
  · subst h3; cases attr <;> (go_enter Tryd.func19, Tryd.ntmps19; go_wp2; go_ret; exact ⟨rfl, rfl⟩)
  by_cases h4 : c = 13
  · subst h4; cases attr <;> (go_enter Tryd.func19, Tryd.ntmps19; go_wp2; go_ret; exact ⟨rfl, rfl⟩)
  have n1 : ¬ ((c.toNat : Int) = 38) := u8ne h1
  have n2 : ¬ ((c.toNat : Int) = 60) := u8ne h2
  have n3 : ¬ ((c.toNat : Int) = 62) := u8ne h3
  have n4 : ¬ ((c.toNat : Int) = 13) := u8ne h4
  cases attr
  · have e : escO false c = [] := by unfold escO; rw [if_neg h1, if_neg h2, if_neg h3, if_neg h4]; rfl
    rw [e]
    go_enter Tryd.func19, Tryd.ntmps19
    go_wp2
    go_ret
    exact ⟨rfl, rfl⟩
  by_cases h5 : c = 34
  · subst h5; (go_enter Tryd.func19, Tryd.ntmps19; go_wp2; go_ret; exact ⟨rfl, rfl⟩)
  by_cases h6 : c = 9
  · subst h6; (go_enter Tryd.func19, Tryd.ntmps19; go_wp2; go_ret; exact ⟨rfl, rfl⟩)
  by_cases h7 : c = 10
  · subst h7; (go_enter Tryd.func19, Tryd.ntmps19; go_wp2; go_ret; exact ⟨rfl, rfl⟩)
  have n5 : ¬ ((c.toNat : Int) = 34) := u8ne h5
  have n6 : ¬ ((c.toNat : Int) = 9) := u8ne h6
  have n7 : ¬ ((c.toNat : Int) = 10) := u8ne h7
  have e : escO true c = [] := by unfold escO; rw [if_neg h1, if_neg h2, if_neg h3, if_neg h4, if_neg (by simp), if_neg h5, if_neg h6, if_neg h7]
  rw [e]
  go_enter Tryd.func19, Tryd.ntmps19
  go_wp2
  go_ret
  exact ⟨rfl, rfl⟩
theorem own_low {w : World} {B B' n size : Nat} {e : TypeId} {v : Value} {xs : List Value} (h : w.ownsRow B e size v n xs) (hB : B' ≤ B) : w.ownsRow B' e size v n xs := by
  refine ⟨h.1, ?_⟩
  rcases h.2 with h0 | ⟨g, cap, cur, hv, hb, r⟩
  · exact .inl h0
  · exact .inr ⟨g, cap, cur, hv, Nat.le_trans hB hb, r⟩
theorem escP_len (attr : Bool) (c : UInt8) : (escP attr c).length ≤ 6 := by
  unfold escP
  split
  · simp
  · unfold escO
    repeat' split
    all_goals simp
theorem escU_len (attr : Bool) (l : List UInt8) : (escU attr l).length ≤ 6 * l.length := by
  induction l with
  | nil => simp [escU]
  | cons c cs ih =>
    have := escP_len attr c
    simp [escU] at *
    omega
theorem escU_snoc (attr : Bool) (l : List UInt8) (c : UInt8) : escU attr (l ++ [c]) = escU attr l ++ escP attr c := by simp [escU]
set_option maxHeartbeats 1600000 in
set_option maxRecDepth 100000 in
theorem esc_any (attr : Bool) (l : List UInt8) (w : World) (hl : l.length ≤ 100000000) : Calls Tryd.prog 10 #[.string ⟨l.toArray⟩, .bool attr] w fun e w' => e = .returned (.string ⟨(escU attr l).toArray⟩) ∧ Below w.heap.size w w' := by
  have hcs := Lib.run_convert_string_bytes (P := Tryd.prog) (w.alloc (.cells #[.pointer none, .slice none 0 0] 56)) 9 25 5 ⟨l.toArray⟩ Tryd.underlying9 Tryd.underlying25 Tryd.underlying5
  have hsz : (w.alloc (.cells #[.pointer none, .slice none 0 0] 56)).heap.size = w.heap.size + 1 := by simp
  have hsz2 : (Lib.bytesWorld (w.alloc (.cells #[.pointer none, .slice none 0 0] 56)) 5 ⟨l.toArray⟩).heap.size = w.heap.size + 1 + 1 := by rw [Lib.bytesWorld_size, hsz]
  have hold : ∀ k, k < w.heap.size + 1 → (Lib.bytesWorld (w.alloc (.cells #[.pointer none, .slice none 0 0] 56)) 5 ⟨l.toArray⟩).heap[k]? = (w.alloc (.cells #[.pointer none, .slice none 0 0] 56)).heap[k]? := fun k hk => Lib.bytesWorld_at_old _ _ _ k (by omega)
  have hnew := fun j (hj : j < l.length) => Lib.bytesWorld_cell (w.alloc (.cells #[.pointer none, .slice none 0 0] 56)) 5 ⟨l.toArray⟩ j hj
  have hio : (Lib.bytesWorld (w.alloc (.cells #[.pointer none, .slice none 0 0] 56)) 5 ⟨l.toArray⟩).os = w.os ∧ (Lib.bytesWorld (w.alloc (.cells #[.pointer none, .slice none 0 0] 56)) 5 ⟨l.toArray⟩).tape = w.tape ∧ (Lib.bytesWorld (w.alloc (.cells #[.pointer none, .slice none 0 0] 56)) 5 ⟨l.toArray⟩).output = w.output := ⟨rfl, rfl, rfl⟩
  have hb0 := heap_alloc_new w (.cells #[.pointer none, .slice none 0 0] 56)
  rw [← hold w.heap.size (by omega)] at hb0
  rw [hsz] at hcs hnew
  have hbl : ∀ k, k < w.heap.size → (Lib.bytesWorld (w.alloc (.cells #[.pointer none, .slice none 0 0] 56)) 5 ⟨l.toArray⟩).heap[k]? = w.heap[k]? := fun k hk => (hold k (by omega)).trans (Below.heap_alloc _ _ _ hk)
  generalize Lib.bytesWorld (w.alloc (.cells #[.pointer none, .slice none 0 0] 56)) 5 ⟨l.toArray⟩ = w2 at *
  generalize grownCap (w.alloc (.cells #[.pointer none, .slice none 0 0] 56)) (ByteArray.size ⟨l.toArray⟩) 0 5 = cp at *
  have hl2 : ByteArray.size ⟨l.toArray⟩ = l.length := by simp [ByteArray.size]
  rw [hl2] at hcs
  have hisB : IsB (w.heap.size + 1 + 1) w.heap.size (Lib.byteCells (escU attr (l.take 0))) w2 := .inl ⟨.slice none 0 0, hb0, ⟨rfl, .inl ⟨rfl, rfl⟩⟩, by simp [Value.ownBlock]⟩
  have HH : Hid _ := And.intro hnew (And.intro hio (And.intro hbl (And.intro hisB hsz2)))
  clear hnew hio hbl hisB hsz2 hold hb0 hl2
  go_enter Tryd.func10, Tryd.ntmps10
  go_wp2_with fail
  go_loopg [12] l.length (fun n v12 wr => ∃ i : Nat, v12 = .int .i64 i ∧ i + n = l.length ∧ IsB (w.heap.size + 1 + 1) w.heap.size (Lib.byteCells (escU attr (l.take i))) wr ∧ Fb (w.heap.size + 1 + 1) w.heap.size w2 wr)
  case atStart => exact ⟨0, rfl, by omega, HH.out.2.2.2.1, Fb.refl _ _ _⟩
  case round =>
    obtain ⟨i, rfl, hin, hB, hF⟩ := hrel
    by_cases hi : i < l.length
    · obtain ⟨m, rfl⟩ : ∃ m, gk = m + 1 := ⟨gk - 1, by omega⟩
      have hlt := hi
      obtain ⟨c, hc⟩ : ∃ c, c = l.getD i 0 := ⟨_, rfl⟩
      have hcell : wr.cell? ⟨w.heap.size + 1, i, none⟩ = some (.int .u8 c.toNat) := by
        have := HH.out.1 i hi
        rw [World.cell?_of_block (a := ⟨w.heap.size + 1, i, none⟩) (hF.blk (w.heap.size + 1) (by omega) (by omega)), this, hc]
      have hsn : escU attr (l.take (i + 1)) = escU attr (l.take i) ++ escP attr c := by
        rw [← escU_snoc, hc]
        congr 1
        rw [List.take_add_one, List.getElem?_eq_getElem hi]
        simp [List.getD, hi]
      have hlen : (Lib.byteCells (escU attr (l.take i))).length ≤ 600000000 := by
        have h1 := escU_len attr (l.take i)
        have h2 : (l.take i).length ≤ l.length := by simp; omega
        simp [Lib.byteCells]
        omega
      have hpl := escP_len attr c
      have hBz : w.heap.size + 1 + 1 ≤ wr.heap.size := by have h1 := HH.out.2.2.2.2; have h2 := hF.size; omega
      have HB : Hid _ := And.intro hB hF
      have HSN : Hid _ := hsn
      have HC : Hid _ := hc
      clear hB hF hsn hc
      by_cases he : escO attr c = []
      · have HE : Hid _ := he
        have hP : escP attr c = [c] := by unfold escP; rw [if_pos he]
        have HPP : Hid _ := hP
        clear he hP
        go_wp2_with (first
          | (go_at_call 19; refine (escaped_s attr c _).mono ?_; rw [HE.out]; rintro e w' ⟨rfl, rfl⟩)
          | (go_at_call 21; refine (wb_any _ _ _ _ _ HB.out.1 (by omega) hBz).mono ?_; rintro e w' ⟨rfl, h1, h2⟩; have HQ : Hid _ := And.intro h1 h2; clear h1 h2))
        go_roundg m
        case measure => omega
        case rel =>
          refine ⟨i + 1, ?_, by omega, .inr ?_, HB.out.2.trans HQ.out.2⟩
          · simp
          · rw [HSN.out, HPP.out]; simpa [Lib.byteCells] using HQ.out.1
      · have HE : Hid _ := he
        have hP : escP attr c = escO attr c := by unfold escP; rw [if_neg he]
        have HPP : Hid _ := hP
        obtain ⟨x, xs, hx⟩ : ∃ x xs, escO attr c = x :: xs := by
          cases h : escO attr c with
          | nil => exact absurd h he
          | cons x xs => exact ⟨x, xs, rfl⟩
        have hne : ¬ ((⟨(x :: xs).toArray⟩ : ByteArray) = ⟨#[]⟩) := by simp
        have hxl : (x :: xs).length ≤ 6 := by rw [← hx, ← hP]; exact hpl
        have HX : Hid _ := hx
        clear he hP hx
        go_wp2_with (first
          | (go_at_call 19; refine (escaped_s attr c _).mono ?_; rw [HX.out]; rintro e w' ⟨rfl, rfl⟩)
          | (go_at_call 20; refine (ws_any _ _ _ _ _ HB.out.1 (by simp [ByteArray.size] at hxl ⊢; omega) hBz).mono ?_; rintro e w' ⟨rfl, h1, h2⟩; have HQ : Hid _ := And.intro h1 h2; clear h1 h2))
        go_roundg m
        case measure => omega
        case rel =>
          refine ⟨i + 1, ?_, by omega, .inr ?_, HB.out.2.trans HQ.out.2⟩
          · simp
          · rw [HSN.out, HPP.out, HX.out]; simpa [Lib.byteCells, Lib.strCells] using HQ.out.1
    · have hil : i = l.length := by omega
      have HB : Hid _ := And.intro hB hF
      clear hB hF
      have hBb : Lib.IsBuilder 56 5 w.heap.size w.heap.size (Lib.byteCells (escU attr l)) wr := by
        have := HB.out.1
        rw [hil, List.take_length] at this
        rcases this with ⟨v, h1, h2, h3⟩ | ⟨v, h1, h2, h3⟩
        · exact .inl ⟨Nat.le_refl _, v, h1, own_low h2 (by omega), h3⟩
        · exact .inr ⟨Nat.le_refl _, v, h1, own_low h2 (by omega), h3⟩
      have hBz : w.heap.size ≤ wr.heap.size := by have h1 := HH.out.2.2.2.2; have h2 := HB.out.2.size; omega
      have HBb : Hid _ := hBb
      clear hBb
      go_wp2_with (first
        | (go_at_call 22; refine (bstr w.heap.size w.heap.size _ _ HBb.out hBz).mono ?_; rintro e w' ⟨rfl, h2⟩; have HQ : Hid _ := h2; clear h2))
      go_ret
      have hio := HH.out.2.1
      have hf := HB.out.2
      have hz := HH.out.2.2.2.2
      exact ⟨rfl, (⟨hf.os.trans hio.1, hf.tape.trans hio.2.1, hf.output.trans hio.2.2, by omega, fun k hk => (hf.blk k (by omega) (by omega)).trans (HH.out.2.2.1 k hk)⟩ : Below w.heap.size w wr).trans HQ.out⟩
end Go.Proofs.YtjcgnbmpnaapdaaDoor
