/- Joined: HDtMem, HDtRd0, HDtRd1, HDtPc1, HDtPc2, HDtPc3, HDtPc4, HDtPd1, HDtPd2, HDtPd3, HDtPd4, HDtPd5. -/
import Derived.Test.YtgaegajcejpmdaaGreatDoorProg
import Derived.Test.YtgaegajcejpmdaaGreatDoorHJ6
import Derived.WalkKit
import Derived.WalkSpells
import Derived.WalkLawsBesides
import Derived.Below
import Derived.MapKept
import Derived.Carry
import Derived.BigQuiet
import Derived.Deep.QuietTactic
import Derived.Deep.LoopGhost
import Derived.Deep.DeepCutAuto
import Derived.Deep.RegionHeld3
import Derived.Laws.IdiomStrings
import Derived.Laws.StructEq
import Derived.Lib.Bytealg
import Derived.LoopN
namespace Go.Proofs.YtgaegajcejpmdaaGreatDoor.Dt
open Go.RowKit
set_option linter.unusedVariables false

theorem nw_heap (w : World) (o : Obj) : (w.alloc o).heap[w.heap.size]? = some o := (Go.MapKept.heap_alloc w o).1
theorem bset {w : World} {X i : Nat} {t : TypeId} {cs : Array Value} (h : w.heap[X]? = some (.cells cs t (0, 0))) (u : Value) : (w.setCell ⟨X, i, none⟩ u).heap[X]? = some (.cells (cs.setIfInBounds i u) t (0, 0)) := by
  simp only [World.setCell, Array.getElem?_modify]
  rw [if_pos trivial, h]
  simp
theorem sza (w : World) (o : Obj) : (w.alloc o).heap.size = w.heap.size + 1 := by simp
theorem lt_of {w : World} {X : Nat} {o : Obj} (h : w.heap[X]? = some o) : X < w.heap.size := (Array.getElem?_eq_some_iff.1 h).1
theorem below_drewN {w : World} (k : Nat) : Below w.heap.size w (w.drewN k) := ⟨rfl, rfl, rfl, Nat.le_refl _, fun _ _ => rfl⟩
theorem bdrewN {N : Nat} {a w : World} (h : Below N a w) (q : Nat) : Below N a (w.drewN q) := ⟨h.os, h.tape, h.output, h.size, h.block⟩
theorem ret_int {k : IntKind} {a b : Int} (h : a = b) : Ending.returned (.int k a) = .returned (.int k b) := by rw [h]
theorem ret_bool {a b : Bool} (h : a = b) : Ending.returned (.bool a) = .returned (.bool b) := by rw [h]
/-- What changes lies in blocks of its own. -/
structure Fro (O : Nat → Prop) (w w' : World) : Prop where
  os : w'.os = w.os
  tape : w'.tape = w.tape
  output : w'.output = w.output
  size : w.heap.size ≤ w'.heap.size
  block : ∀ k, k < w.heap.size → ¬ O k → w'.heap[k]? = w.heap[k]?
theorem Fro.refl (O : Nat → Prop) (w : World) : Fro O w w := ⟨rfl, rfl, rfl, Nat.le_refl _, fun _ _ _ => rfl⟩
theorem Fro.trans {O : Nat → Prop} {a b c : World} (h : Fro O a b) (k : Fro O b c) : Fro O a c :=
  ⟨k.os.trans h.os, k.tape.trans h.tape, k.output.trans h.output, Nat.le_trans h.size k.size, fun i hi hn => (k.block i (Nat.lt_of_lt_of_le hi h.size) hn).trans (h.block i hi hn)⟩
/-- What is new since may change too. -/
theorem Fro.trans' {O O' : Nat → Prop} {a b c : World} (h : Fro O a b) (k : Fro O' b c) (ho : ∀ i, i < a.heap.size → O' i → O i) : Fro O a c :=
  ⟨k.os.trans h.os, k.tape.trans h.tape, k.output.trans h.output, Nat.le_trans h.size k.size, fun i hi hn => (k.block i (Nat.lt_of_lt_of_le hi h.size) (fun q => hn (ho i hi q))).trans (h.block i hi hn)⟩
theorem Fro.mono {O O' : Nat → Prop} {a b : World} (h : Fro O a b) (ho : ∀ i, i < a.heap.size → O i → O' i) : Fro O' a b :=
  ⟨h.os, h.tape, h.output, h.size, fun i hi hn => h.block i hi (fun q => hn (ho i hi q))⟩
theorem Fro.below {O : Nat → Prop} {a b : World} (h : Below a.heap.size a b) : Fro O a b := ⟨h.os, h.tape, h.output, h.size, fun i hi _ => h.block i hi⟩
theorem Fro.toBelow {O : Nat → Prop} {a b : World} {N : Nat} (h : Fro O a b) (hN : N ≤ a.heap.size) (ho : ∀ i, i < N → ¬ O i) : Below N a b := ⟨h.os, h.tape, h.output, h.size, fun i hi => h.block i (Nat.lt_of_lt_of_le hi hN) (ho i hi)⟩
theorem Fro.drewN {O : Nat → Prop} {a b : World} (h : Fro O a b) (q : Nat) : Fro O a (b.drewN q) := ⟨h.os, h.tape, h.output, h.size, h.block⟩
theorem Fro.alloc {O : Nat → Prop} {a b : World} (h : Fro O a b) (o : Obj) : Fro O a (b.alloc o) := h.trans' (Fro.below (O := fun _ => False) ((Below.refl _ _).alloc (Nat.le_refl _) o)) (fun _ _ q => q.elim)
theorem Fro.set {O : Nat → Prop} {a b : World} (h : Fro O a b) {X i : Nat} (hX : O X ∨ a.heap.size ≤ X) (u : Value) : Fro O a (b.setCell ⟨X, i, none⟩ u) :=
  h.trans' (O' := fun k => k = X) ⟨rfl, rfl, rfl, by simp [World.setCell], fun k _ hk => Below.heap_setCell _ _ _ _ hk⟩ (fun k hk e => by
    rcases hX with q | q
    · rw [e]; exact q
    · omega)
theorem Fro.at {O : Nat → Prop} {a b : World} (h : Fro O a b) {X : Nat} {o : Obj} (hX : a.heap[X]? = some o) (hO : ¬ O X) : b.heap[X]? = some o := (h.block X (lt_of hX) hO).trans hX
end Go.Proofs.YtgaegajcejpmdaaGreatDoor.Dt
namespace Go.Proofs.YtgaegajcejpmdaaGreatDoor.Dt
open Go.RowKit
set_option linter.unusedVariables false

/-- A text's bytes, as numbers. -/
def bl (s : ByteArray) : List Int := s.data.toList.map fun c => (c.toNat : Int)
theorem bl_len (s : ByteArray) : (bl s).length = s.size := by simp [bl]
theorem bl_drop (s : ByteArray) (i : Nat) (hi : i < s.size) : (bl s).drop i = ((s[i]'hi).toNat : Int) :: (bl s).drop (i + 1) := by
  rw [List.drop_eq_getElem_cons (by rw [bl_len]; exact hi)]
  congr 1
  simp [bl]
  rfl
theorem bl_cons (s : ByteArray) (h : 0 < s.size) : bl s = ((s[0]'h).toNat : Int) :: (bl s).drop 1 := by
  have := bl_drop s 0 h
  simpa using this
theorem bl_ext (s : ByteArray) : bl (s.extract 1 s.size) = (bl s).drop 1 := by
  unfold bl
  rw [ByteArray.data_extract, Array.toList_extract, List.extract_eq_take_drop, List.map_drop.symm]
  congr 1
  rw [List.take_of_length_le]
  rw [List.length_drop]
  exact Nat.le_refl _
theorem bl_nil {s : ByteArray} (h : s.size = 0) : bl s = [] := List.eq_nil_of_length_eq_zero (by rw [bl_len]; exact h)
theorem tl_nn {s : ByteArray} (h : 0 < s.size) : (s.toList == []) = false := by
  have : ¬ s.toList = [] := fun q => by
    rw [Lib.toList_data] at q
    have e : s.data.toList.length = 0 := by rw [q]; rfl
    rw [Array.length_toList] at e
    have e2 : s.size = 0 := e
    omega
  simpa using this
theorem tl_ee {s : ByteArray} (h : s.size = 0) : (s.toList == []) = true := by
  have : s.toList = [] := by rw [Lib.toList_data]; exact List.eq_nil_of_length_eq_zero (by rw [Array.length_toList]; exact h)
  simp [this]
/-- Where the first point stands; -1: nowhere. -/
def ix : List Int → Int
  | [] => -1
  | b :: l => if b = 84 then 0 else if ix l = -1 then -1 else ix l + 1
theorem ix_lib (l : List UInt8) : Lib.indexByte l 84 = ix (l.map fun c => (c.toNat : Int)) := by
  induction l with
  | nil => rfl
  | cons b l ih =>
    simp only [Lib.indexByte, List.map_cons, ix, ih]
    have e : (b == 84) = decide ((b.toNat : Int) = 84) := by
      rw [Bool.eq_iff_iff]; simp
      constructor
      · rintro rfl; rfl
      · intro h; exact UInt8.toNat_inj.1 (by simpa using (by omega : b.toNat = 84))
    rw [e]
    simp
theorem ix_bd (l : List Int) : ix l = -1 ∨ (0 ≤ ix l ∧ ix l < l.length) := by
  induction l with
  | nil => simp [ix]
  | cons b l ih =>
    have : ((b :: l).length : Int) = l.length + 1 := by simp
    rw [this]
    simp only [ix]
    by_cases h1 : b = 84
    · rw [if_pos h1]; omega
    · rw [if_neg h1]
      by_cases h2 : ix l = -1
      · rw [if_pos h2]; omega
      · rw [if_neg h2]; omega
theorem bl_pre (s : ByteArray) (k : Nat) (h : k ≤ s.size) : bl (s.extract 0 k) = (bl s).take k := by
  unfold bl
  rw [ByteArray.data_extract, Array.toList_extract, List.extract_eq_take_drop, ← List.map_take]
  simp
theorem bl_suf (s : ByteArray) (k : Nat) : bl (s.extract k s.size) = (bl s).drop k := by
  unfold bl
  rw [ByteArray.data_extract, Array.toList_extract, List.extract_eq_take_drop, List.map_drop.symm]
  congr 1
  rw [List.take_of_length_le]
  rw [List.length_drop]
  exact Nat.le_refl _
theorem point_run (s : ByteArray) (c : Int) (w : World) : (callFunc 215 #[.string s, .int .u8 c]).run Tryz.prog w = .ok (.value (.int .i64 (Lib.indexByte s.data.toList c.toNat.toUInt8))) w := by
  rw [run_callFunc_extern Tryz.func215 (by kernel_rfl) (by kernel_rfl) (by kernel_rfl) (e := Extern.BytealgIndexByte.indexByte) (by kernel_rfl), Lib.run_indexByteString]
  rfl
set_option maxHeartbeats 400000 in
theorem index_any (s : ByteArray) (w : World) :
    Calls Tryz.prog 176 #[.string s, .string ⟨#[84]⟩] w fun e w' => e = .returned (.int .i64 (ix (bl s))) ∧ w' = w := by
  have hr := point_run s
  go_enter Tryz.func176, Tryz.ntmps176
  go_wp2
  · go_ret
    refine ⟨ret_int ?_, rfl⟩
    have h : s.toList = [84] := (beq_iff_eq.1 ‹_›).symm
    have : bl s = [84] := by unfold bl; rw [← Lib.toList_data, h]; rfl
    rw [this]; rfl
  · go_ret
    refine ⟨ret_int ?_, rfl⟩
    exact ix_lib s.data.toList
set_option maxHeartbeats 400000 in
theorem lcut_no (s : ByteArray) (w : World) (h : ix (bl s) = -1) :
    Calls Tryz.prog 148 #[.string s, .string ⟨#[84]⟩] w fun e w' => e = .returned (.tuple #[.string s, .string ⟨#[]⟩, .bool false]) ∧ w' = w := by
  go_enter Tryz.func148, Tryz.ntmps148
  go_wp2_with (go_at_call 176; refine (index_any _ _).mono ?_; rintro e w' ⟨rfl, rfl⟩)
  go_ret3
  exact ⟨rfl, rfl⟩
set_option maxHeartbeats 400000 in
theorem cut_no (s : ByteArray) (w : World) (h : ix (bl s) = -1) :
    Calls Tryz.prog 105 #[.string s, .string ⟨#[84]⟩] w fun e w' => e = .returned (.tuple #[.string s, .string ⟨#[]⟩, .bool false]) ∧ w' = w := by
  go_enter Tryz.func105, Tryz.ntmps105
  go_wp2_with (go_at_call 148; refine (lcut_no _ _ h).mono ?_; rintro e w' ⟨rfl, rfl⟩)
  go_ret3
  exact ⟨rfl, rfl⟩
set_option maxHeartbeats 400000 in
theorem lcut_yes (s : ByteArray) (k : Nat) (w : World) (hs : s.size ≤ maxLen) (h : ix (bl s) = (k : Int)) :
    Calls Tryz.prog 148 #[.string s, .string ⟨#[84]⟩] w fun e w' => e = .returned (.tuple #[.string (s.extract 0 k), .string (s.extract (k + 1) s.size), .bool true]) ∧ Below w.heap.size w w' := by
  have hk : k < s.size := by
    have := ix_bd (bl s)
    rw [h, bl_len] at this
    omega
  unfold maxLen at hs
  go_enter Tryz.func148, Tryz.ntmps148
  go_wp2_with (go_at_call 176; refine (index_any _ _).mono ?_; rintro e w' ⟨rfl, rfl⟩)
  go_region
  all_goals
    go_wp2
    go_ret3
    exact ⟨rfl, (Below.refl _ _).drew⟩
set_option maxHeartbeats 400000 in
theorem cut_yes (s : ByteArray) (k : Nat) (w : World) (hs : s.size ≤ maxLen) (h : ix (bl s) = (k : Int)) :
    Calls Tryz.prog 105 #[.string s, .string ⟨#[84]⟩] w fun e w' => e = .returned (.tuple #[.string (s.extract 0 k), .string (s.extract (k + 1) s.size), .bool true]) ∧ Below w.heap.size w w' := by
  go_enter Tryz.func105, Tryz.ntmps105
  go_wp2_with (go_at_call 148; refine (lcut_yes _ _ _ hs h).mono ?_; rintro e w' ⟨rfl, hb⟩)
  go_ret3
  exact ⟨rfl, hb⟩
theorem ext_one (s : ByteArray) (h : 0 < s.size) : (s.extract 0 1).toList = [s[0]'h] := by
  rw [Lib.toList_data, ByteArray.data_extract, Array.toList_extract, List.extract_eq_take_drop]
  rw [List.drop_zero]
  have h' : 0 < s.data.toList.length := by rw [Array.length_toList]; exact h
  rw [List.take_succ_eq_append_getElem h']
  simp
  rfl
theorem pre_aux (s : ByteArray) (h : 0 < s.size) (c : UInt8) : ((s.extract 0 1).toList == [c]) = decide ((bl s).head? = some (c.toNat : Int)) := by
  rw [ext_one s h, bl_cons s h, Bool.eq_iff_iff]
  simp
  constructor
  · rintro rfl; rfl
  · intro q; exact UInt8.toNat_inj.1 (by omega)
set_option maxHeartbeats 400000 in
theorem pre_p (s : ByteArray) (c : UInt8) (w : World) (hs : s.size ≤ maxLen) :
    Calls Tryz.prog 147 #[.string s, .string ⟨#[c]⟩] w fun e w' => e = .returned (.bool (decide ((bl s).head? = some (c.toNat : Int)))) ∧ w' = w := by
  unfold maxLen at hs
  by_cases h : 0 < s.size
  · have ha := pre_aux s h c
    generalize (decide ((bl s).head? = some (c.toNat : Int))) = B at *
    have h1 : (1 : Int) ≤ s.size := by omega
    go_enter Tryz.func147, Tryz.ntmps147
    go_wp2
    go_ret
    exact ⟨by rw [← ha]; rfl, rfl⟩
  · have hb : bl s = [] := bl_nil (by omega)
    have hB : (decide ((bl s).head? = some (c.toNat : Int))) = false := by rw [hb]; simp
    have h1 : ¬ (1 : Int) ≤ s.size := by omega
    rw [hB]
    go_enter Tryz.func147, Tryz.ntmps147
    go_wp2
    go_ret
    exact ⟨rfl, rfl⟩

set_option maxHeartbeats 400000 in
theorem lcp_p (s : ByteArray) (c : UInt8) (w : World) (hs : s.size ≤ maxLen) :
    Calls Tryz.prog 183 #[.string s, .string ⟨#[c]⟩] w fun e w' => e = .returned (.tuple #[.string (if (bl s).head? = some (c.toNat : Int) then s.extract 1 s.size else s), .bool (decide ((bl s).head? = some (c.toNat : Int)))]) ∧ w' = w := by
  have m1 := pre_p s c w hs
  unfold maxLen at hs
  have HM : Hid _ := And.intro m1 trivial
  clear m1
  by_cases h : (bl s).head? = some (c.toNat : Int)
  · have hp : 0 < s.size := by
      by_cases h0 : 0 < s.size
      · exact h0
      · rw [bl_nil (by omega)] at h; simp at h
    rw [if_pos h, decide_eq_true h]
    rw [decide_eq_true h] at HM
    have h1 : (1 : Int) ≤ s.size := by omega
    clear h
    go_enter Tryz.func183, Tryz.ntmps183
    go_wp2_with (first | (go_at_call 147; refine Calls.mono HM.out.1 ?_; rintro e w' ⟨rfl, rfl⟩))
    go_ret2
    exact ⟨rfl, rfl⟩
  · rw [if_neg h, decide_eq_false h]
    rw [decide_eq_false h] at HM
    clear h
    go_enter Tryz.func183, Tryz.ntmps183
    go_wp2_with (first | (go_at_call 147; refine Calls.mono HM.out.1 ?_; rintro e w' ⟨rfl, rfl⟩))
    go_ret2
    exact ⟨rfl, rfl⟩
set_option maxHeartbeats 400000 in
theorem cp_p (s : ByteArray) (c : UInt8) (w : World) (hs : s.size ≤ maxLen) :
    Calls Tryz.prog 156 #[.string s, .string ⟨#[c]⟩] w fun e w' => e = .returned (.tuple #[.string (if (bl s).head? = some (c.toNat : Int) then s.extract 1 s.size else s), .bool (decide ((bl s).head? = some (c.toNat : Int)))]) ∧ w' = w := by
  have HM : Hid _ := And.intro (lcp_p s c w hs) trivial
  generalize (if (bl s).head? = some (c.toNat : Int) then s.extract 1 s.size else s) = r at *
  generalize (decide ((bl s).head? = some (c.toNat : Int))) = b at *
  go_enter Tryz.func156, Tryz.ntmps156
  go_wp2_with (first | (go_at_call 183; refine Calls.mono HM.out.1 ?_; rintro e w' ⟨rfl, rfl⟩))
  go_ret2
  exact ⟨rfl, rfl⟩
end Go.Proofs.YtgaegajcejpmdaaGreatDoor.Dt
namespace Go.Proofs.YtgaegajcejpmdaaGreatDoor.Dt
open Go.RowKit
set_option linter.unusedVariables false

theorem dgs_len (l : List Int) : dgs l ≤ l.length := (List.takeWhile_sublist _).length_le
theorem dgs_cons (c : Int) (l : List Int) : dgs (c :: l) = if isD c then dgs l + 1 else 0 := by
  unfold dgs
  rw [List.takeWhile_cons]
  split <;> simp
theorem dgs_get : ∀ (l : List Int) (j : Nat) (h : j < dgs l), isD (l[j]'(Nat.lt_of_lt_of_le h (dgs_len l))) = true
  | [], j, h => by simp [dgs] at h
  | c :: l, j, h => by
    have hc := dgs_cons c l
    by_cases hd : isD c = true
    · rw [if_pos hd] at hc
      cases j with
      | zero => simpa using hd
      | succ j => simpa using dgs_get l j (by omega)
    · rw [if_neg hd] at hc; omega
theorem dgs_stop : ∀ (l : List Int) (h : dgs l < l.length), isD (l[dgs l]'h) = false
  | [], h => by simp at h
  | c :: l, h => by
    have hc := dgs_cons c l
    by_cases hd : isD c = true
    · rw [if_pos hd] at hc
      have h' : dgs l < l.length := by rw [hc] at h; simpa using h
      have := dgs_stop l h'
      simpa [hc] using this
    · rw [if_neg hd] at hc
      simpa [hc] using hd
theorem dvl_take {l : List Int} {j : Nat} (h : j < l.length) : dvl (l.take (j + 1)) = 10 * dvl (l.take j) + (l[j] - 48) := by
  rw [List.take_succ_eq_append_getElem h]
  unfold dvl
  rw [List.foldl_append]
  rfl
theorem dvl_bd {l : List Int} {j : Nat} (h : j ≤ dgs l) (h9 : j ≤ 9) : 0 ≤ dvl (l.take j) ∧ dvl (l.take j) < 1000000000 := by
  obtain ⟨a, b⟩ := dgs_take h
  have := dvl_in _ a
  rw [b] at this
  have hp : (10 : Int) ^ j ≤ 10 ^ 9 := by
    have : (10 : Nat) ^ j ≤ 10 ^ 9 := Nat.pow_le_pow_right (by omega) h9
    exact_mod_cast this
  omega
theorem bl_get (s : ByteArray) (j : Nat) (h : j < s.size) (h' : j < (bl s).length) : (bl s)[j] = ((s[j]'h).toNat : Int) := by
  have h2 : j < s.data.toList.length := by simpa using h
  show (s.data.toList.map fun c => (c.toNat : Int))[j]'(by simpa using h) = _
  rw [List.getElem_map]
  simp
  rfl
/-- How many digits are taken. -/
def dk (most : Nat) (l : List Int) : Nat := min (dgs l) most
set_option maxHeartbeats 800000 in
theorem digits_p (s : ByteArray) (most : Nat) (w : World) (hs : s.size ≤ maxLen) (hm : most ≤ 9) :
    Calls Tryz.prog 189 #[.string s, .int .i64 (most : Int)] w fun e w' => e = .returned (.tuple #[.int .i64 (dvl ((bl s).take (dk most (bl s)))), .int .i64 (dk most (bl s) : Nat)]) ∧ w' = w := by
  have hL := bl_len s
  have hdl := dgs_len (bl s)
  unfold maxLen at hs
  obtain ⟨K, hK⟩ : ∃ K, dk most (bl s) = K := ⟨_, rfl⟩
  have hK1 : K ≤ dgs (bl s) := by rw [← hK]; unfold dk; omega
  have hK2 : K ≤ most := by rw [← hK]; unfold dk; omega
  have hK3 : K = dgs (bl s) ∨ K = most := by rw [← hK]; unfold dk; omega
  rw [hK]
  clear hK
  obtain ⟨N, hN⟩ : ∃ N : Nat, min s.size most = N := ⟨_, rfl⟩
  have hN1 : N ≤ s.size := by omega
  have hN2 : N ≤ most := by omega
  have hN3 : K ≤ N := by omega
  have hN4 : N = s.size ∨ N = most := by omega
  have hN5 : (most : Int) < (s.size : Int) → N = most := by omega
  have hN6 : ¬ (most : Int) < (s.size : Int) → N = s.size := by omega
  have HN : Hid _ := And.intro hN5 hN6
  clear hN4 hN5 hN6
  have hm' : (most : Int) ≤ 9 := by omega
  clear hN
  have HS : Hid (∀ j, j < K → dvl ((bl s).take (j + 1)) = 10 * dvl ((bl s).take j) + (((s[j]?).getD 0).toNat - 48 : Int)) := (fun j hj => by
    have h1 : j < s.size := by omega
    rw [dvl_take (by omega), bl_get s j h1]
    simp [h1] : ∀ j, j < K → dvl ((bl s).take (j + 1)) = 10 * dvl ((bl s).take j) + (((s[j]?).getD 0).toNat - 48 : Int))
  have HD : Hid (∀ j (h : j < s.size), j < K → 48 ≤ ((s[j]'h).toNat : Int) ∧ ((s[j]'h).toNat : Int) ≤ 57) := (fun j h hj => by
    have := dgs_get (bl s) j (by omega)
    rw [bl_get s j h] at this
    simpa [isD] using this : ∀ j (h : j < s.size), j < K → 48 ≤ ((s[j]'h).toNat : Int) ∧ ((s[j]'h).toNat : Int) ≤ 57)
  have HE : Hid (∀ (h : K < s.size), K < N → ¬ (48 ≤ ((s[K]'h).toNat : Int) ∧ ((s[K]'h).toNat : Int) ≤ 57)) := (fun h hj => by
    have he : K = dgs (bl s) := by omega
    have := dgs_stop (bl s) (by omega)
    have e2 : (bl s)[dgs (bl s)]'(by omega) = (bl s)[K]'(by omega) := by congr 1; exact he.symm
    rw [e2, bl_get s K h] at this
    simp only [isD] at this
    intro q
    simp [q.1, q.2] at this : ∀ (h : K < s.size), K < N → ¬ (48 ≤ ((s[K]'h).toNat : Int) ∧ ((s[K]'h).toNat : Int) ≤ 57))
  have HB : Hid (∀ j, j ≤ K → 0 ≤ dvl ((bl s).take j) ∧ dvl ((bl s).take j) < 1000000000) := (fun j hj => dvl_bd (by omega) (by omega) : ∀ j, j ≤ K → 0 ≤ dvl ((bl s).take j) ∧ dvl ((bl s).take j) < 1000000000)
  clear hL hdl hK1 hK3
  go_enter Tryz.func189, Tryz.ntmps189
  go_wp2_with fail
  go_loopg [4, 5] K (fun g v4 v5 wr => ∃ j : Nat, j + g = K ∧ v5 = .int .i64 (j : Int) ∧ v4 = .int .i64 (dvl ((bl s).take j)) ∧ wr = w)
  case atStart => exact ⟨0, by omega, rfl, by simp [dvl], rfl⟩
  case round =>
    obtain ⟨j, hjg, rfl, rfl, hwr⟩ := hrel
    have hw3 := hwr.symm
    clear hwr
    subst hw3
    obtain ⟨hb0, hb1⟩ := HB.out j (by omega)
    by_cases hlt : j < K
    · obtain ⟨g, rfl⟩ : ∃ g, gk = g + 1 := ⟨gk - 1, by omega⟩
      have hjs : j < s.size := by omega
      obtain ⟨c0, c1⟩ := HD.out j hjs hlt
      have hn := HS.out j hlt
      rw [show ((s[j]?).getD 0) = s[j] by simp [hjs]] at hn
      have HNX : Hid _ := hn
      clear hn
      have hjN : (j : Int) < (N : Int) := by omega
      generalize dvl ((bl s).take j) = V at *
      by_cases hms : (most : Int) < (s.size : Int)
      · obtain rfl := HN.out.1 hms
        go_wp2_with fail
        go_roundg g
        case measure => omega
        case rel => exact ⟨j + 1, by omega, by simp, by rw [HNX.out], rfl⟩
      · obtain rfl := HN.out.2 (by omega)
        go_wp2_with fail
        go_roundg g
        case measure => omega
        case rel => exact ⟨j + 1, by omega, by simp, by rw [HNX.out], rfl⟩
    · have hjK : j = K := by omega
      subst hjK
      by_cases hjN : (j : Int) < (N : Int)
      · have hjs : j < s.size := by omega
        have hno := HE.out hjs (by omega)
        by_cases c0 : 48 ≤ ((s[j]'hjs).toNat : Int)
        · have c1 : ¬ ((s[j]'hjs).toNat : Int) ≤ 57 := fun q => hno ⟨c0, q⟩
          clear hno
          by_cases hms : (most : Int) < (s.size : Int)
          · obtain rfl := HN.out.1 hms
            go_wp2_with fail
            go_ret2
            exact ⟨rfl, rfl⟩
          · obtain rfl := HN.out.2 (by omega)
            go_wp2_with fail
            go_ret2
            exact ⟨rfl, rfl⟩
        · clear hno
          by_cases hms : (most : Int) < (s.size : Int)
          · obtain rfl := HN.out.1 hms
            go_wp2_with fail
            go_ret2
            exact ⟨rfl, rfl⟩
          · obtain rfl := HN.out.2 (by omega)
            go_wp2_with fail
            go_ret2
            exact ⟨rfl, rfl⟩
      · by_cases hms : (most : Int) < (s.size : Int)
        · obtain rfl := HN.out.1 hms
          go_wp2_with fail
          go_ret2
          exact ⟨rfl, rfl⟩
        · obtain rfl := HN.out.2 (by omega)
          go_wp2_with fail
          go_ret2
          exact ⟨rfl, rfl⟩
end Go.Proofs.YtgaegajcejpmdaaGreatDoor.Dt
namespace Go.Proofs.YtgaegajcejpmdaaGreatDoor.Dt
open Go.RowKit
set_option linter.unusedVariables false

theorem tdiv_neg {a b : Int} (hb : 0 < b) (h : a.tmod b < 0) : a.tdiv b - 1 = a / b := by
  rw [Int.tmod_eq_emod] at h
  rw [Int.tdiv_eq_ediv]
  have := Int.emod_nonneg a (show b ≠ 0 by omega)
  split at h <;> rename_i c
  · omega
  · rw [if_neg c, Int.sign_eq_one_of_pos hb]; omega
theorem tdiv_pos {a b : Int} (hb : 0 < b) (h : ¬ a.tmod b < 0) : a.tdiv b = a / b := by
  rw [Int.tmod_eq_emod] at h
  rw [Int.tdiv_eq_ediv]
  have := Int.emod_lt_of_pos a hb
  split at h <;> rename_i c
  · rw [if_pos c]; omega
  · omega
theorem placeOf_p (y : Int) (w : World) (h0 : -1000000000000000 < y) (h1 : y < 1000000000000000) : Calls Tryz.prog 136 #[.int .i64 y] w fun e w' => e = .returned (.int .i64 (lnY y)) ∧ w' = w := by
  unfold lnY
  by_cases h : y < 0
  · rw [if_pos h]
    go_enter Tryz.func136, Tryz.ntmps136
    go_wp2_with fail
    go_ret
    exact ⟨rfl, rfl⟩
  · rw [if_neg h]
    go_enter Tryz.func136, Tryz.ntmps136
    go_wp2_with fail
    go_ret
    exact ⟨rfl, rfl⟩
theorem yearAt_p (y : Int) (w : World) (h0 : -1000000000000000 < y) (h1 : y < 1000000000000000) : Calls Tryz.prog 135 #[.int .i64 y] w fun e w' => e = .returned (.int .i64 (bkY y)) ∧ w' = w := by
  unfold bkY
  by_cases h : y ≤ 0
  · rw [if_pos h]
    go_enter Tryz.func135, Tryz.ntmps135
    go_wp2_with fail
    go_ret
    exact ⟨rfl, rfl⟩
  · rw [if_neg h]
    go_enter Tryz.func135, Tryz.ntmps135
    go_wp2_with fail
    go_ret
    exact ⟨rfl, rfl⟩
set_option maxHeartbeats 400000 in
theorem carry_p (n b : Int) (w : World) (h0 : -1000000000000000000 < n) (h1 : n < 1000000000000000000) (hb : 0 < b) (hb' : b < 1000000000000) : Calls Tryz.prog 134 #[.int .i64 n, .int .i64 b] w fun e w' => e = .returned (.tuple #[.int .i64 (n / b), .int .i64 (n % b)]) ∧ ∃ q, w' = w.drewN q := by
  have hne : ¬ b = 0 := by omega
  have hn1 : ¬ b = -1 := by omega
  have hdb : -1000000000000000000 ≤ n / b ∧ n / b ≤ 1000000000000000000 := by
    have h2 : n / b ≤ 1000000000000000000 := by
      by_cases c : 0 ≤ n
      · have := Int.ediv_le_self b c; omega
      · have := Int.ediv_neg_of_neg_of_pos (show n < 0 by omega) hb; omega
    have h3 : -1000000000000000000 ≤ n / b := by
      have : -1000000000000000000 * b ≤ n := by
        have : 1 * 1000000000000000000 ≤ b * 1000000000000000000 := Int.mul_le_mul_of_nonneg_right (by omega) (by omega)
        omega
      exact (Int.le_ediv_iff_mul_le hb).2 this
    exact ⟨h3, h2⟩
  have hm := emod_in n hb
  obtain ⟨hd0, hd1⟩ := hdb
  obtain ⟨hm0, hm1⟩ := hm
  by_cases h : n.tmod b < 0
  · have e1 := tmod_neg hb h
    have e2 := tdiv_neg hb h
    rw [← e1] at hm0 hm1 ⊢
    rw [← e2] at hd0 hd1 ⊢
    clear e1 e2
    generalize hr : n.tmod b = r at *
    generalize hs : n.tdiv b = s at *
    go_enter Tryz.func134, Tryz.ntmps134
    go_wp2_with fail
    go_quiet (fail)
    go_wp2_with fail
    go_ret2
    exact ⟨rfl, _, rfl⟩
  · have e1 := tmod_pos hb h
    have e2 := tdiv_pos hb h
    rw [← e1] at hm0 hm1 ⊢
    rw [← e2] at hd0 hd1 ⊢
    clear e1 e2
    generalize hr : n.tmod b = r at *
    generalize hs : n.tdiv b = s at *
    go_enter Tryz.func134, Tryz.ntmps134
    go_wp2_with fail
    go_quiet (fail)
    go_wp2_with fail
    go_ret2
    exact ⟨rfl, _, rfl⟩
end Go.Proofs.YtgaegajcejpmdaaGreatDoor.Dt
namespace Go.Proofs.YtgaegajcejpmdaaGreatDoor.Dt
open Go.RowKit
set_option linter.unusedVariables false

theorem tm0 (n : Int) {b : Int} (hb : 0 < b) : n.tmod b = 0 ↔ n % b = 0 := by
  constructor
  · intro h; rw [← tmod_pos hb (by omega)]; exact h
  · intro h
    by_cases c : n.tmod b < 0
    · have := tmod_neg hb c; have := Int.emod_lt_of_pos n hb; have := Int.lt_tmod_of_pos n hb; omega
    · rw [tmod_pos hb c]; exact h
theorem ln_in' {y : Int} (h0 : -100000000000000 < y) (h1 : y < 100000000000000) : -1000000000000000 < lnY y ∧ lnY y < 1000000000000000 := by unfold lnY; split <;> omega
set_option maxHeartbeats 400000 in
theorem Leap_p (y : Int) (w : World) (h0 : -100000000000000 < y) (h1 : y < 100000000000000) : Calls Tryz.prog 171 #[.int .i64 y] w fun e w' => e = .returned (.bool (lpL (lnY y))) ∧ w' = w := by
  have m1 := placeOf_p y w (by omega) (by omega)
  have HM : Hid _ := And.intro m1 trivial
  clear m1
  have hl := ln_in' h0 h1
  obtain ⟨hl0, hl1⟩ := hl
  have HE : Hid (lpL (lnY y) = ((lnY y).tmod 4 == 0 && ((lnY y).tmod 100 != 0 || (lnY y).tmod 400 == 0))) := (by
    unfold lpL
    have a := tm0 (lnY y) (show (0 : Int) < 4 by omega)
    have b := tm0 (lnY y) (show (0 : Int) < 100 by omega)
    have c := tm0 (lnY y) (show (0 : Int) < 400 by omega)
    rw [Bool.eq_iff_iff]
    simp [a, b, c] : lpL (lnY y) = ((lnY y).tmod 4 == 0 && ((lnY y).tmod 100 != 0 || (lnY y).tmod 400 == 0)))
  generalize hL : lnY y = L at *
  clear hL
  generalize ha : L.tmod 4 = a at *
  generalize hb : L.tmod 100 = b at *
  generalize hc : L.tmod 400 = c at *
  by_cases ha0 : a = 0
  · by_cases hb0 : b = 0
    · by_cases hc0 : c = 0
      all_goals
        go_enter Tryz.func171, Tryz.ntmps171
        go_wp2_with (first | (go_at_call 136; refine Calls.mono HM.out.1 ?_; rintro e w' ⟨rfl, rfl⟩))
        go_ret
        refine ⟨?_, rfl⟩
        rw [HE.out]
        simp [ha0, hb0, hc0]
    · go_enter Tryz.func171, Tryz.ntmps171
      go_wp2_with (first | (go_at_call 136; refine Calls.mono HM.out.1 ?_; rintro e w' ⟨rfl, rfl⟩))
      go_ret
      refine ⟨?_, rfl⟩
      rw [HE.out]
      simp [ha0, hb0]
  · go_enter Tryz.func171, Tryz.ntmps171
    go_wp2_with (first | (go_at_call 136; refine Calls.mono HM.out.1 ?_; rintro e w' ⟨rfl, rfl⟩))
    go_ret
    refine ⟨?_, rfl⟩
    rw [HE.out]
    simp [ha0]
set_option maxHeartbeats 400000 in
theorem length_p (y m : Int) (w : World) (h0 : -100000000000000 < y) (h1 : y < 100000000000000) (hm : -1000000000000000 < m) (hm' : m < 1000000000000000) : Calls Tryz.prog 137 #[.int .i64 y, .int .i64 m] w fun e w' => e = .returned (.int .i64 (lenL (lnY y) m)) ∧ w' = w := by
  have m1 := Leap_p y w h0 h1
  have HM : Hid _ := And.intro m1 trivial
  clear m1
  by_cases c2 : m = 2
  · subst c2
    cases hl : lpL (lnY y)
    all_goals
      rw [hl] at HM
      go_enter Tryz.func137, Tryz.ntmps137
      go_wp2_with (first | (go_at_call 171; refine Calls.mono HM.out.1 ?_; rintro e w' ⟨rfl, rfl⟩))
      go_ret
      exact ⟨by unfold lenL; simp [hl], rfl⟩
  · have e1 : lenL (lnY y) m = if m = 4 ∨ m = 6 ∨ m = 9 ∨ m = 11 then 30 else if 1 ≤ m ∧ m ≤ 12 then 31 else 0 := by unfold lenL; rw [if_neg c2]
    rw [e1]
    clear e1 HM
    by_cases i : 1 ≤ m ∧ m ≤ 12
    · have : m = 1 ∨ m = 3 ∨ m = 4 ∨ m = 5 ∨ m = 6 ∨ m = 7 ∨ m = 8 ∨ m = 9 ∨ m = 10 ∨ m = 11 ∨ m = 12 := by omega
      rcases this with rfl | rfl | rfl | rfl | rfl | rfl | rfl | rfl | rfl | rfl | rfl
      all_goals
        go_enter Tryz.func137, Tryz.ntmps137
        go_wp2_with fail
        go_ret
        exact ⟨rfl, rfl⟩
    · rw [if_neg (by omega), if_neg i]
      have n1 : ¬ m = 1 := by omega
      have n3 : ¬ m = 3 := by omega
      have n4 : ¬ m = 4 := by omega
      have n5 : ¬ m = 5 := by omega
      have n6 : ¬ m = 6 := by omega
      have n7 : ¬ m = 7 := by omega
      have n8 : ¬ m = 8 := by omega
      have n9 : ¬ m = 9 := by omega
      have n10 : ¬ m = 10 := by omega
      have n11 : ¬ m = 11 := by omega
      have n12 : ¬ m = 12 := by omega
      clear i
      go_enter Tryz.func137, Tryz.ntmps137
      go_wp2_with fail
      go_ret
      exact ⟨rfl, rfl⟩
/-- How often a rule's leap years come in so many years. -/
theorem leap_c (y b : Int) (B : Nat) (w : World) (hc : w.cell? ⟨B, 0, none⟩ = some (.int .i64 y)) (h0 : -10000000000000 < y) (h1 : y < 10000000000000) (hb : 0 < b) (hb' : b < 1000000) : Calls Tryz.prog 202 #[.int .i64 b, .pointer (some ⟨B, 0, none⟩)] w fun e w' => e = .returned (.int .i64 ((y + b - 1) / b)) ∧ ∃ q, w' = w.drewN q := by
  have m1 := carry_p (y + b - 1) b w (by omega) (by omega) hb (by omega)
  have HM : Hid _ := And.intro m1 trivial
  clear m1
  go_enter Tryz.func202, Tryz.ntmps202
  go_wp2_with (first | (go_at_call 134; refine Calls.mono HM.out.1 ?_; rintro e w' ⟨rfl, q, rfl⟩))
  go_ret
  exact ⟨rfl, _, rfl⟩
/-- The days of so many years from 2000 on. -/
theorem ahd_from (k : Int) : ahd (2000 + k) - ahd 2000 = 365 * k + (k + 4 - 1) / 4 - (k + 100 - 1) / 100 + (k + 400 - 1) / 400 := by unfold ahd; omega
set_option maxHeartbeats 400000 in
theorem from_p (k : Int) (w : World) (h0 : -10000000000000 < k) (h1 : k < 10000000000000) : Calls Tryz.prog 172 #[.int .i64 k] w fun e w' => e = .returned (.int .i64 (ahd (2000 + k) - ahd 2000)) ∧ Below w.heap.size w w' := by
  rw [ahd_from]
  have hcell : ∀ n : Nat, ((w.alloc (.cells #[.int .i64 k] 3)).drewN n).cell? ⟨w.heap.size, 0, none⟩ = some (.int .i64 k) := fun n => by
    show (w.alloc (.cells #[.int .i64 k] 3)).cell? ⟨w.heap.size, 0, none⟩ = _
    simp only [World.cell?, nw_heap]
    rfl
  have m1 := fun n : Nat => leap_c k 4 w.heap.size _ (hcell n) h0 h1 (by omega) (by omega)
  have m2 := fun n : Nat => leap_c k 100 w.heap.size _ (hcell n) h0 h1 (by omega) (by omega)
  have m3 := fun n : Nat => leap_c k 400 w.heap.size _ (hcell n) h0 h1 (by omega) (by omega)
  clear hcell
  have HM : Hid _ := And.intro m1 (And.intro m2 m3)
  clear m1 m2 m3
  have b1 : -10000000000000 ≤ (k + 4 - 1) / 4 ∧ (k + 4 - 1) / 4 ≤ 10000000000000 := by omega
  have b2 : -10000000000000 ≤ (k + 100 - 1) / 100 ∧ (k + 100 - 1) / 100 ≤ 10000000000000 := by omega
  have b3 : -10000000000000 ≤ (k + 400 - 1) / 400 ∧ (k + 400 - 1) / 400 ≤ 10000000000000 := by omega
  generalize (k + 4 - 1) / 4 = a at *
  generalize (k + 100 - 1) / 100 = b at *
  generalize (k + 400 - 1) / 400 = c at *
  obtain ⟨b11, b12⟩ := b1
  obtain ⟨b21, b22⟩ := b2
  obtain ⟨b31, b32⟩ := b3
  go_enter Tryz.func172, Tryz.ntmps172
  go_wp2_with fail
  go_quiet ((go_at_call 202; first | with_reducible exact Calls.quiet_of (HM.out.1 _) | with_reducible exact Calls.quiet_of (HM.out.2.1 _) | with_reducible exact Calls.quiet_of (HM.out.2.2 _)))
  go_wp2_with fail
  go_ret
  exact ⟨rfl, bdrewN ((Below.refl _ _).alloc (Nat.le_refl _) _) _⟩
end Go.Proofs.YtgaegajcejpmdaaGreatDoor.Dt
namespace Go.Proofs.YtgaegajcejpmdaaGreatDoor.Dt
open Go.RowKit
set_option linter.unusedVariables false

theorem ahd_in' {l : Int} (h0 : -10000000000000 < l) (h1 : l < 10000000000000) : -4000000000000000 < ahd l ∧ ahd l < 4000000000000000 := by unfold ahd; omega
theorem bk_in' {l : Int} (h0 : -10000000000000 < l) (h1 : l < 10000000000000) : -100000000000000 < bkY l ∧ bkY l < 100000000000000 := by unfold bkY; split <;> omega
set_option maxHeartbeats 800000 in
theorem days_p (y m d : Int) (w : World) (h0 : -1000000000000 < y) (h1 : y < 1000000000000) (m0 : -1000000000000 < m) (m1 : m < 1000000000000) (d0 : -1000000000000000 < d) (d1 : d < 1000000000000000) : Calls Tryz.prog 139 #[.int .i64 y, .int .i64 m, .int .i64 d] w fun e w' => e = .returned (.int .i64 (daysS y m d)) ∧ Below w.heap.size w w' := by
  have hln : -1000000000001 < lnY y ∧ lnY y < 1000000000001 := by unfold lnY; split <;> omega
  have c1 := carry_p (m - 1) 12 w (by omega) (by omega) (by omega) (by omega)
  have hdv : -1000000000000 < (m - 1) / 12 ∧ (m - 1) / 12 < 1000000000000 := by omega
  have hmd := emod_in (m - 1) (show (0 : Int) < 12 by omega)
  obtain ⟨M, hM⟩ : ∃ M : Nat, (m - 1) % 12 = M := ⟨((m - 1) % 12).toNat, by omega⟩
  have hb : ahd 2000 = 730485 := by decide
  have hR : daysS y m d = ahd (lnY y + (m - 1) / 12) - 730485 + cum (lnY y + (m - 1) / 12) M + d - 1 := by
    unfold daysS dayN
    rw [hb, hM, Int.toNat_natCast, Nat.add_sub_cancel]
  rw [hM] at c1 hmd
  clear hM
  rw [hR]
  clear hR
  have c2 := fun W : World => placeOf_p y W (by omega) (by omega)
  generalize hL1 : lnY y = L1 at *
  generalize hL2 : (m - 1) / 12 = L2 at *
  have hL : -10000000000000 < L1 + L2 ∧ L1 + L2 < 10000000000000 := by omega
  have c4 := fun W : World => from_p (L1 + L2 - 2000) W (by omega) (by omega)
  have ha := ahd_in' hL.1 hL.2
  rw [show 2000 + (L1 + L2 - 2000) = L1 + L2 by omega, hb] at c4
  have c6 := fun W : World => yearAt_p (L1 + L2) W (by omega) (by omega)
  have hk := bk_in' hL.1 hL.2
  have c7 := fun (k : Int) (W : World) => fun (p : -1000000000000000 < k) (q : k < 1000000000000000) => length_p (bkY (L1 + L2)) k W hk.1 hk.2 p q
  rw [ln_bk] at c7
  have HC : Hid _ := And.intro c1 (And.intro c2 (And.intro c4 (And.intro c6 c7)))
  clear c1 c2 c4 c6 c7
  have HCM : Hid (∀ k : Nat, k ≤ 12 → 0 ≤ cum (L1 + L2) k ∧ cum (L1 + L2) k ≤ 366) := (fun k hk => ⟨cum_nonneg _ _, cum_le _ hk⟩ : ∀ k : Nat, k ≤ 12 → 0 ≤ cum (L1 + L2) k ∧ cum (L1 + L2) k ≤ 366)
  have HLE : Hid (∀ k : Nat, cum (L1 + L2) (k + 1) = cum (L1 + L2) k + lenL (L1 + L2) ((k : Int) + 1)) := (fun k => rfl : ∀ k : Nat, cum (L1 + L2) (k + 1) = cum (L1 + L2) k + lenL (L1 + L2) ((k : Int) + 1))
  clear hb hL1 hL2
  generalize bkY (L1 + L2) = B at *
  generalize hA : ahd (L1 + L2) = A at *
  obtain ⟨hln1, hln2⟩ := hln
  obtain ⟨hdv1, hdv2⟩ := hdv
  obtain ⟨hmd1, hmd2⟩ := hmd
  obtain ⟨hL3, hL4⟩ := hL
  obtain ⟨ha1, ha2⟩ := ha
  obtain ⟨hk1, hk2⟩ := hk
  clear hA
  go_enter Tryz.func139, Tryz.ntmps139
  go_wp2_with (first | (go_at_call 134; refine Calls.mono HC.out.1 ?_; rintro e w' ⟨rfl, q, rfl⟩) | (go_at_call 136; refine Calls.mono (HC.out.2.1 _) ?_; rintro e w' ⟨rfl, rfl⟩) | (go_at_call 172; refine Calls.mono (HC.out.2.2.1 _) ?_; rintro e w' ⟨rfl, hB⟩))
  have HB : Hid _ := And.intro (show Below w.heap.size w w' from (below_drewN q).trans hB) trivial
  clear hB
  go_loopg [9, 28] M (fun g v9 v28 wr => ∃ k : Nat, v28 = .int .i64 (k : Int) ∧ k + g = M ∧ wr = w' ∧ v9 = .int .i64 (A - 730485 + d - 1 + cum (L1 + L2) k))
  case atStart => exact ⟨0, rfl, by omega, rfl, by simp [cum]⟩
  case round =>
    obtain ⟨k, rfl, hkg, hwr, rfl⟩ := hrel
    have hw3 := hwr.symm
    clear hwr
    subst hw3
    have hck := HCM.out k (by omega)
    obtain ⟨hck1, hck2⟩ := hck
    by_cases hlt : (k : Int) < (M : Int)
    · obtain ⟨g, rfl⟩ : ∃ g, gk = g + 1 := ⟨gk - 1, by omega⟩
      have hn := HLE.out k
      have hcn := HCM.out (k + 1) (by omega)
      have c7 := fun W : World => HC.out.2.2.2.2 ((k : Int) + 1) W (by omega) (by omega)
      have H7 : Hid _ := And.intro c7 trivial
      clear c7
      rw [hn] at hcn
      obtain ⟨hcn1, hcn2⟩ := hcn
      have HN : Hid _ := hn
      clear hn
      generalize lenL (L1 + L2) ((k : Int) + 1) = Q at *
      generalize cum (L1 + L2) k = C at *
      go_wp2_with (first | (go_at_call 135; refine Calls.mono (HC.out.2.2.2.1 _) ?_; rintro e w' ⟨rfl, rfl⟩) | (go_at_call 137; refine Calls.mono (H7.out.1 _) ?_; rintro e w' ⟨rfl, rfl⟩))
      go_roundg g
      case measure => omega
      case rel => exact ⟨k + 1, by simp, by omega, rfl, by rw [HN.out, Int.add_assoc]⟩
    · have hkM : k = M := by omega
      subst hkM
      go_wp2_with fail
      go_ret
      exact ⟨ret_int (by omega), HB.out.1⟩
end Go.Proofs.YtgaegajcejpmdaaGreatDoor.Dt
namespace Go.Proofs.YtgaegajcejpmdaaGreatDoor.Dt
open Go.RowKit
set_option linter.unusedVariables false

theorem guess {r : Int} (h0 : 0 ≤ r) (h1 : r < 146097) : ahd (2000 + r / 366) - ahd 2000 ≤ r ∧ r < ahd (2000 + (r / 366 + 2)) - ahd 2000 := by
  unfold ahd; omega
theorem guess_top {k : Int} (h : 400 ≤ k) : 146097 ≤ ahd (2000 + k) - ahd 2000 := by unfold ahd; omega
/-- The day of a number, as it is found. -/
theorem found {n l r : Int} {j : Nat} (hj : j ≤ 11) (hn : ahd l - ahd 2000 + r = n) (h0 : 0 ≤ r - cum l j) (h1 : r - cum l j < lenL l ((j : Int) + 1)) : civL n = l ∧ ((civM n : Nat) : Int) = (j : Int) + 1 ∧ civD n = r - cum l j + 1 := by
  have : IsDay n l (j + 1) (r - cum l j + 1) := ⟨by omega, by omega, by omega, by
    rw [show (((j + 1 : Nat) : Nat) : Int) = (j : Int) + 1 by omega]; omega, by
    simp only [dayN, Nat.add_sub_cancel]; omega⟩
  obtain ⟨a, b, c⟩ := civ_of this
  exact ⟨a, by rw [b]; omega, c⟩
/-- The months' loop, its end. -/
theorem found_end {l r : Int} (h : r < yrL l) {j : Nat} (hj : j ≤ 12) (h0 : 0 ≤ r - cum l j) : j ≤ 11 := by
  by_cases c : j = 12
  · subst c; rw [cum_twelve] at h0; omega
  · omega
set_option maxHeartbeats 800000 in
theorem dayAt_p (n : Int) (w : World) (h0 : -1000000000000000 < n) (h1 : n < 1000000000000000) : Calls Tryz.prog 138 #[.int .i64 n] w fun e w' => e = .returned (.tuple #[.int .i64 (bkY (civL n)), .int .i64 (civM n : Nat), .int .i64 (civD n)]) ∧ Below w.heap.size w w' := by
  have c1 := carry_p n 146097 w (by omega) (by omega) (by omega) (by omega)
  have hr := emod_in n (show (0 : Int) < 146097 by omega)
  have hq : -10000000000 < n / 146097 ∧ n / 146097 < 10000000000 := by omega
  have hnr : n = 146097 * (n / 146097) + n % 146097 := by have := Int.emod_add_mul_ediv n 146097; omega
  generalize hR : n % 146097 = r at *
  generalize hQ : n / 146097 = q at *
  clear hR hQ
  obtain ⟨hr0, hr1⟩ := hr
  obtain ⟨hq0, hq1⟩ := hq
  have hg := guess hr0 hr1
  have hkb : 0 ≤ r / 366 ∧ r / 366 ≤ 399 := by omega
  have c2 := fun W : World => from_p (r / 366 + 1) W (by omega) (by omega)
  have c3 := fun W : World => from_p (r / 366) W (by omega) (by omega)
  have hk1 : r / 366 + 1 ≤ 400 := by omega
  have hmid := guess_top (k := r / 366 + 1)
  have hKb := ahd_in' (l := 2000 + r / 366) (by omega) (by omega)
  have hKb1 := ahd_in' (l := 2000 + (r / 366 + 1)) (by omega) (by omega)
  have hb : ahd 2000 = 730485 := by decide
  generalize hk : r / 366 = k at *
  have HK : Hid _ := hk
  clear hk
  have hcy : ∀ j : Int, ahd (2000 + 400 * q + j) = ahd (2000 + j) + 146097 * q := fun j => by
    rw [show 2000 + 400 * q + j = 2000 + j + 400 * q by omega, ahd_cycle]
  have fin : ∀ (K : Int) (W : World), 0 ≤ K → K ≤ 399 → ahd (2000 + K) - ahd 2000 ≤ r → r < ahd (2000 + (K + 1)) - ahd 2000 →
      ahd (2000 + 400 * q + K) - ahd 2000 + (r - (ahd (2000 + K) - ahd 2000)) = n ∧ 0 ≤ r - (ahd (2000 + K) - ahd 2000) ∧ r - (ahd (2000 + K) - ahd 2000) < yrL (2000 + 400 * q + K) := by
    intro K W k0 k1 a b
    have e1 := hcy K
    have e2 := hcy (K + 1)
    have e3 := ahd_succ (2000 + 400 * q + K)
    rw [show 2000 + 400 * q + K + 1 = 2000 + 400 * q + (K + 1) by omega] at e3
    omega
  have HF : Hid _ := And.intro fin trivial
  have HC : Hid _ := And.intro c1 (And.intro c2 c3)
  clear c1 c2 c3 fin hcy
  have key : ∃ K : Int, 0 ≤ K ∧ K ≤ 399 ∧ ahd (2000 + K) - ahd 2000 ≤ r ∧ r < ahd (2000 + (K + 1)) - ahd 2000 ∧ ((ahd (2000 + (k + 1)) - ahd 2000 ≤ r ∧ K = k + 1) ∨ (¬ ahd (2000 + (k + 1)) - ahd 2000 ≤ r ∧ K = k)) := by
    by_cases hup : ahd (2000 + (k + 1)) - ahd 2000 ≤ r
    · refine ⟨k + 1, by omega, ?_, hup, ?_, .inl ⟨hup, rfl⟩⟩
      · by_cases c : 400 ≤ k + 1
        · have := hmid c; omega
        · omega
      · rw [show k + 1 + 1 = k + 2 by omega]; omega
    · exact ⟨k, by omega, by omega, hg.1, by omega, .inr ⟨hup, rfl⟩⟩
  obtain ⟨K, K0, K1, K2, K3, hK⟩ := key
  obtain ⟨f1, f2, f3⟩ := HF.out.1 K w K0 K1 K2 K3
  have c5 := fun W : World => from_p K W (by omega) (by omega)
  have c6 := fun W : World => yearAt_p (2000 + 400 * q + K) W (by omega) (by omega)
  have hbk := bk_in' (l := 2000 + 400 * q + K) (by omega) (by omega)
  have c7 := fun (m : Int) (W : World) => fun (p : -1000000000000000 < m) (q' : m < 1000000000000000) => length_p (bkY (2000 + 400 * q + K)) m W hbk.1 hbk.2 p q'
  rw [ln_bk] at c7
  have HD : Hid _ := And.intro c5 (And.intro c6 c7)
  clear c5 c6 c7 HF hmid hnr
  have hFb := ahd_in' (l := 2000 + K) (by omega) (by omega)
  have HFE : Hid _ := f1
  clear f1
  generalize hL : 2000 + 400 * q + K = L at *
  have HL : Hid _ := hL
  clear hL
  generalize hF : ahd (2000 + K) - ahd 2000 = F at *
  have hFb1 : -10000000000000000 < F ∧ F < 10000000000000000 := by omega
  generalize hG : ahd (2000 + (k + 1)) - ahd 2000 = G at *
  have hGb1 : -10000000000000000 < G ∧ G < 10000000000000000 := by omega
  have hGF : K = k + 1 → G = F := by rintro rfl; rw [← hF, ← hG]
  clear hF hG hg hKb hKb1 hFb hb K2 K3
  obtain ⟨hFb0, hFb1⟩ := hFb1
  obtain ⟨hGb0, hGb1⟩ := hGb1
  obtain ⟨hk0, hk2⟩ := hkb
  have hdv : r / 366 = k := HK.out
  have hR2 : (r - F) = r - F := rfl
  have HCM : Hid (∀ j : Nat, j ≤ 12 → 0 ≤ cum L j ∧ cum L j ≤ 366) := (fun k hk => ⟨cum_nonneg _ _, cum_le _ hk⟩ : ∀ j : Nat, j ≤ 12 → 0 ≤ cum L j ∧ cum L j ≤ 366)
  have HLE : Hid (∀ j : Nat, cum L (j + 1) = cum L j + lenL L ((j : Int) + 1)) := (fun k => rfl : ∀ j : Nat, cum L (j + 1) = cum L j + lenL L ((j : Int) + 1))
  have HYR : Hid _ := And.intro f3 trivial
  clear f3 hR2
  have HL2 : 2000 + q * 400 + K = L := by have := HL.out; omega
  rcases hK with ⟨hup, rfl⟩ | ⟨hup, rfl⟩
  · obtain rfl := (hGF rfl).symm
    clear hGF
    go_enter Tryz.func138, Tryz.ntmps138
    go_wp2_with (first | (go_at_call 134; refine Calls.mono HC.out.1 ?_; rintro e w' ⟨rfl, q1, rfl⟩; have hb := below_drewN (w := w) q1) | (go_at_call 172; with_reducible refine Calls.mono (HC.out.2.1 _) ?_; rintro e w1 ⟨rfl, hB1⟩; have hb := hb.trans (hB1.mono hb.size)) | (go_at_call 172; with_reducible refine Calls.mono (HD.out.1 _) ?_; rintro e w1 ⟨rfl, hB1⟩; have hb := hb.trans (hB1.mono hb.size)) | (go_at_call 135; with_reducible refine Calls.mono (HD.out.2.1 _) ?_; rintro e w3 ⟨rfl, hB3⟩; rw [← hB3] at hb; clear hB3))
    have HB : Hid _ := And.intro hb trivial
    clear hb
    go_loopg [0, 3] 12 (fun g v0 v3 wr => ∃ j : Nat, j + g = 12 ∧ v3 = .int .i64 ((j : Int) + 1) ∧ v0 = .int .i64 (r - F - cum L j) ∧ 0 ≤ r - F - cum L j ∧ wr = w3)
    case atStart => exact ⟨0, rfl, rfl, by simp [cum], by simp [cum]; omega, rfl⟩
    case round =>
      obtain ⟨j, hjg, rfl, rfl, hj0, hwr⟩ := hrel
      have hw3 := hwr.symm
      clear hwr
      subst hw3
      have hj11 : j ≤ 11 := found_end HYR.out.1 (by omega) hj0
      have hck := HCM.out j (by omega)
      obtain ⟨hck1, hck2⟩ := hck
      have hn := HLE.out j
      have c7 := fun W : World => HD.out.2.2 ((j : Int) + 1) W (by omega) (by omega)
      have H7 : Hid _ := And.intro c7 trivial
      clear c7
      have hlen := len_in (l := L) (m := (j : Int) + 1) (by omega) (by omega)
      obtain ⟨hlen0, hlen1⟩ := hlen
      have HN : Hid _ := hn
      clear hn
      by_cases hlt : lenL L ((j : Int) + 1) ≤ r - F - cum L j
      · obtain ⟨g, rfl⟩ : ∃ g, gk = g + 1 := ⟨gk - 1, by omega⟩
        generalize lenL L ((j : Int) + 1) = Q at *
        generalize cum L j = C at *
        go_wp2_with (first | (go_at_call 137; refine Calls.mono (H7.out.1 _) ?_; rintro e w' ⟨rfl, rfl⟩))
        go_roundg g
        case measure => omega
        case rel => exact ⟨j + 1, by omega, by simp, by rw [HN.out]; congr 1; omega, by rw [HN.out]; omega, rfl⟩
      · obtain ⟨e1, e2, e3⟩ := found (n := n) (l := L) (r := r - F) (j := j) hj11 HFE.out hj0 (by omega)
        have HE : Hid _ := And.intro e1 (And.intro e2 e3)
        clear e1 e2 e3
        generalize lenL L ((j : Int) + 1) = Q at *
        generalize cum L j = C at *
        go_wp2_with (first | (go_at_call 137; refine Calls.mono (H7.out.1 _) ?_; rintro e w' ⟨rfl, rfl⟩))
        go_ret3
        exact ⟨by rw [HE.out.1, HE.out.2.1, HE.out.2.2]; rfl, HB.out.1⟩
  · clear hGF
    go_enter Tryz.func138, Tryz.ntmps138
    go_wp2_with (first | (go_at_call 134; refine Calls.mono HC.out.1 ?_; rintro e w' ⟨rfl, q1, rfl⟩; have hb := below_drewN (w := w) q1) | (go_at_call 172; with_reducible refine Calls.mono (HC.out.2.1 _) ?_; rintro e w1 ⟨rfl, hB1⟩; have hb := hb.trans (hB1.mono hb.size)) | (go_at_call 172; with_reducible refine Calls.mono (HD.out.1 _) ?_; rintro e w1 ⟨rfl, hB1⟩; have hb := hb.trans (hB1.mono hb.size)) | (go_at_call 135; with_reducible refine Calls.mono (HD.out.2.1 _) ?_; rintro e w3 ⟨rfl, hB3⟩; rw [← hB3] at hb; clear hB3))
    have HB : Hid _ := And.intro hb trivial
    clear hb
    go_loopg [0, 3] 12 (fun g v0 v3 wr => ∃ j : Nat, j + g = 12 ∧ v3 = .int .i64 ((j : Int) + 1) ∧ v0 = .int .i64 (r - F - cum L j) ∧ 0 ≤ r - F - cum L j ∧ wr = w3)
    case atStart => exact ⟨0, rfl, rfl, by simp [cum], by simp [cum]; omega, rfl⟩
    case round =>
      obtain ⟨j, hjg, rfl, rfl, hj0, hwr⟩ := hrel
      have hw3 := hwr.symm
      clear hwr
      subst hw3
      have hj11 : j ≤ 11 := found_end HYR.out.1 (by omega) hj0
      have hck := HCM.out j (by omega)
      obtain ⟨hck1, hck2⟩ := hck
      have hn := HLE.out j
      have c7 := fun W : World => HD.out.2.2 ((j : Int) + 1) W (by omega) (by omega)
      have H7 : Hid _ := And.intro c7 trivial
      clear c7
      have hlen := len_in (l := L) (m := (j : Int) + 1) (by omega) (by omega)
      obtain ⟨hlen0, hlen1⟩ := hlen
      have HN : Hid _ := hn
      clear hn
      by_cases hlt : lenL L ((j : Int) + 1) ≤ r - F - cum L j
      · obtain ⟨g, rfl⟩ : ∃ g, gk = g + 1 := ⟨gk - 1, by omega⟩
        generalize lenL L ((j : Int) + 1) = Q at *
        generalize cum L j = C at *
        go_wp2_with (first | (go_at_call 137; refine Calls.mono (H7.out.1 _) ?_; rintro e w' ⟨rfl, rfl⟩))
        go_roundg g
        case measure => omega
        case rel => exact ⟨j + 1, by omega, by simp, by rw [HN.out]; congr 1; omega, by rw [HN.out]; omega, rfl⟩
      · obtain ⟨e1, e2, e3⟩ := found (n := n) (l := L) (r := r - F) (j := j) hj11 HFE.out hj0 (by omega)
        have HE : Hid _ := And.intro e1 (And.intro e2 e3)
        clear e1 e2 e3
        generalize lenL L ((j : Int) + 1) = Q at *
        generalize cum L j = C at *
        go_wp2_with (first | (go_at_call 137; refine Calls.mono (H7.out.1 _) ?_; rintro e w' ⟨rfl, rfl⟩))
        go_ret3
        exact ⟨by rw [HE.out.1, HE.out.2.1, HE.out.2.2]; rfl, HB.out.1⟩
end Go.Proofs.YtgaegajcejpmdaaGreatDoor.Dt
namespace Go.Proofs.YtgaegajcejpmdaaGreatDoor.Dt
open Go.RowKit
set_option linter.unusedVariables false

/-- A moment, a span as values. -/
abbrev moV (a : Mo) : Value := .agg #[.int .i64 a.k, .int .i64 a.y, .int .i64 a.m, .int .i64 a.d, .int .i64 a.s, .int .i64 a.n, .bool a.hz, .int .i64 a.z]
abbrev spV (p : Sp) : Value := .agg #[.int .i64 p.o, .int .i64 p.s, .int .i64 p.n]
/-- Numbers of no great size. -/
structure MoB (a : Mo) : Prop where
  y0 : -10000000000 < a.y
  y1 : a.y < 10000000000
  m0 : -10000000000 < a.m
  m1 : a.m < 10000000000
  d0 : -10000000000 < a.d
  d1 : a.d < 10000000000
  s0 : -100000000000000 < a.s
  s1 : a.s < 100000000000000
  n0 : -10000000000 < a.n
  n1 : a.n < 10000000000
structure SpB (p : Sp) : Prop where
  o0 : -1000000000000 < p.o
  o1 : p.o < 1000000000000
  s0 : -10000000000000000 < p.s
  s1 : p.s < 10000000000000000
  n0 : -10000000000000000 < p.n
  n1 : p.n < 10000000000000000
abbrev moC (a : Mo) : Array Value := #[.int .i64 a.k, .int .i64 a.y, .int .i64 a.m, .int .i64 a.d, .int .i64 a.s, .int .i64 a.n, .bool a.hz, .int .i64 a.z]
abbrev mo0 : Array Value := #[.int .i64 0, .int .i64 0, .int .i64 0, .int .i64 0, .int .i64 0, .int .i64 0, .bool false, .int .i64 0]
/-- Three boxes side by side. -/
theorem box3 (w : World) (A B C : Obj) : (((w.alloc A).alloc B).alloc C).heap[w.heap.size]? = some A ∧ (((w.alloc A).alloc B).alloc C).heap[w.heap.size + 1]? = some B ∧ (((w.alloc A).alloc B).alloc C).heap[w.heap.size + 2]? = some C ∧ Below w.heap.size w (((w.alloc A).alloc B).alloc C) := by
  have hA := nw_heap w A
  have hB := nw_heap (w.alloc A) B
  have hC := nw_heap ((w.alloc A).alloc B) C
  have b1 : Below (w.alloc A).heap.size (w.alloc A) ((w.alloc A).alloc B) := (Below.refl _ _).alloc (Nat.le_refl _) _
  have b2 : Below ((w.alloc A).alloc B).heap.size ((w.alloc A).alloc B) (((w.alloc A).alloc B).alloc C) := (Below.refl _ _).alloc (Nat.le_refl _) _
  rw [sza] at hB
  rw [sza, sza] at hC
  refine ⟨(b2.block _ (by simp; omega)).trans ((b1.block _ (by simp)).trans hA), (b2.block _ (by simp)).trans hB, hC, ?_⟩
  exact (((Below.refl _ _).alloc (Nat.le_refl _) _).alloc (by simp) _).alloc (by simp; omega) _
/-- Two boxes and a result's place. -/
structure AB (w U : World) (c p z : Array Value) (t u v : TypeId) : Prop where
  x1 : U.heap[w.heap.size]? = some (.cells c t (0, 0))
  x2 : U.heap[w.heap.size + 1]? = some (.cells p u (0, 0))
  x3 : U.heap[w.heap.size + 2]? = some (.cells z v (0, 0))
  hb : Below w.heap.size w U
theorem AB.init (w : World) (c p z : Array Value) (t u v : TypeId) : AB w (((w.alloc (.cells c t)).alloc (.cells p u)).alloc (.cells z v)) c p z t u v := by
  obtain ⟨a, b, d, e⟩ := box3 w (.cells c t) (.cells p u) (.cells z v)
  exact ⟨a, b, d, e⟩
theorem AB.drew {w U : World} {c p z : Array Value} {t u v : TypeId} (h : AB w U c p z t u v) (q : Nat) : AB w (U.drewN q) c p z t u v := ⟨h.x1, h.x2, h.x3, bdrewN h.hb q⟩
theorem AB.set {w U : World} {c p z : Array Value} {t u v : TypeId} (h : AB w U c p z t u v) (i : Nat) (x : Value) : AB w (U.setCell ⟨w.heap.size, i, none⟩ x) (c.setIfInBounds i x) p z t u v :=
  ⟨bset h.x1 x, (Below.heap_setCell _ _ _ _ (by simp)).trans h.x2, (Below.heap_setCell _ _ _ _ (by simp)).trans h.x3, h.hb.setCell (p := ⟨w.heap.size, i, none⟩) (Nat.le_refl _) x⟩
theorem AB.below {w U U' : World} {c p z : Array Value} {t u v : TypeId} (h : AB w U c p z t u v) (hb : Below U.heap.size U U') : AB w U' c p z t u v :=
  ⟨(hb.block _ (lt_of h.x1)).trans h.x1, (hb.block _ (lt_of h.x2)).trans h.x2, (hb.block _ (lt_of h.x3)).trans h.x3, h.hb.trans (hb.mono h.hb.size)⟩
theorem AB.ex {w U : World} {c p z : Array Value} {t u v : TypeId} (h : AB w U c p z t u v) : ∃ U', U = U' ∧ AB w U' c p z t u v := ⟨U, rfl, h⟩
theorem blk8 {U : World} {X : Nat} {a b c d e f g h : Value} {t : TypeId} (hx : U.heap[X]? = some (.cells #[a, b, c, d, e, f, g, h] t (0, 0))) : (U.cell? ⟨X, 0, none⟩ = some a ∧ U.cell? ⟨X, 1, none⟩ = some b ∧ U.cell? ⟨X, 2, none⟩ = some c ∧ U.cell? ⟨X, 3, none⟩ = some d ∧ U.cell? ⟨X, 4, none⟩ = some e ∧ U.cell? ⟨X, 5, none⟩ = some f ∧ U.cell? ⟨X, 6, none⟩ = some g ∧ U.cell? ⟨X, 7, none⟩ = some h) ∧ U.frozen? ⟨X, 0, none⟩ = false ∧ U.frozen? ⟨X, 1, none⟩ = false ∧ U.frozen? ⟨X, 2, none⟩ = false ∧ U.frozen? ⟨X, 3, none⟩ = false ∧ U.frozen? ⟨X, 4, none⟩ = false ∧ U.frozen? ⟨X, 5, none⟩ = false ∧ U.frozen? ⟨X, 6, none⟩ = false ∧ U.frozen? ⟨X, 7, none⟩ = false := by
  refine ⟨⟨?_, ?_, ?_, ?_, ?_, ?_, ?_, ?_⟩, ?_, ?_, ?_, ?_, ?_, ?_, ?_, ?_⟩ <;> simp [World.cell?, World.frozen?, hx]
theorem blk3 {U : World} {X : Nat} {a b c : Value} {t : TypeId} (hx : U.heap[X]? = some (.cells #[a, b, c] t (0, 0))) : U.cell? ⟨X, 0, none⟩ = some a ∧ U.cell? ⟨X, 1, none⟩ = some b ∧ U.cell? ⟨X, 2, none⟩ = some c := by
  refine ⟨?_, ?_, ?_⟩ <;> simp [World.cell?, hx]
theorem put8 {N : Nat} {w W : World} {X : Nat} {o0 o1 o2 o3 o4 o5 o6 o7 : Value} {t : TypeId} (hb : Below N w W) (hX : N ≤ X) (hx : W.heap[X]? = some (.cells #[o0, o1, o2, o3, o4, o5, o6, o7] t (0, 0))) (v0 v1 v2 v3 v4 v5 v6 v7 : Value) :
    ∃ U, ((((((((W.setCell ⟨X, 0, none⟩ v0).setCell ⟨X, 1, none⟩ v1).setCell ⟨X, 2, none⟩ v2).setCell ⟨X, 3, none⟩ v3).setCell ⟨X, 4, none⟩ v4).setCell ⟨X, 5, none⟩ v5).setCell ⟨X, 6, none⟩ v6).setCell ⟨X, 7, none⟩ v7) = U ∧ U.heap[X]? = some (.cells #[v0, v1, v2, v3, v4, v5, v6, v7] t (0, 0)) ∧ Below N w U ∧ (∀ k, k ≠ X → U.heap[k]? = W.heap[k]?) ∧ U.heap.size = W.heap.size := by
  have x0 := bset (i := 0) hx v0
  simp only [List.setIfInBounds_toArray, List.set_cons_zero] at x0
  have x1 := bset (i := 1) x0 v1
  simp only [List.setIfInBounds_toArray, List.set_cons_zero, List.set_cons_succ] at x1
  have x2 := bset (i := 2) x1 v2
  simp only [List.setIfInBounds_toArray, List.set_cons_zero, List.set_cons_succ] at x2
  have x3 := bset (i := 3) x2 v3
  simp only [List.setIfInBounds_toArray, List.set_cons_zero, List.set_cons_succ] at x3
  have x4 := bset (i := 4) x3 v4
  simp only [List.setIfInBounds_toArray, List.set_cons_zero, List.set_cons_succ] at x4
  have x5 := bset (i := 5) x4 v5
  simp only [List.setIfInBounds_toArray, List.set_cons_zero, List.set_cons_succ] at x5
  have x6 := bset (i := 6) x5 v6
  simp only [List.setIfInBounds_toArray, List.set_cons_zero, List.set_cons_succ] at x6
  have x7 := bset (i := 7) x6 v7
  simp only [List.setIfInBounds_toArray, List.set_cons_zero, List.set_cons_succ] at x7
  refine ⟨_, rfl, x7, ((((((((hb.setCell (p := ⟨X, 0, none⟩) hX v0).setCell (p := ⟨X, 1, none⟩) hX v1).setCell (p := ⟨X, 2, none⟩) hX v2).setCell (p := ⟨X, 3, none⟩) hX v3).setCell (p := ⟨X, 4, none⟩) hX v4).setCell (p := ⟨X, 5, none⟩) hX v5).setCell (p := ⟨X, 6, none⟩) hX v6).setCell (p := ⟨X, 7, none⟩) hX v7), fun k hk => ?_, by simp [World.setCell]⟩
  rw [Below.heap_setCell _ _ _ _ hk, Below.heap_setCell _ _ _ _ hk, Below.heap_setCell _ _ _ _ hk, Below.heap_setCell _ _ _ _ hk, Below.heap_setCell _ _ _ _ hk, Below.heap_setCell _ _ _ _ hk, Below.heap_setCell _ _ _ _ hk, Below.heap_setCell _ _ _ _ hk]
set_option maxHeartbeats 1000000 in
theorem add_p (a : Mo) (p : Sp) (w : World) (ha : MoB a) (hp : SpB p) : Calls Tryz.prog 91 #[moV a, spV p] w fun e w' => e = .returned (moV (addM a p)) ∧ Below w.heap.size w w' := by
  obtain ⟨k, y, m, d, s, n, hz, z⟩ := a
  obtain ⟨o, ps, pn⟩ := p
  obtain ⟨y0, y1, m0, m1, d0, d1, s0, s1, n0, n1⟩ := ha
  obtain ⟨o0, o1, ps0, ps1, pn0, pn1⟩ := hp
  dsimp only at *
  have c1 := fun W : World => carry_p (m - 1 + o) 12 W (by omega) (by omega) (by omega) (by omega)
  have c2 := fun W : World => placeOf_p y W (by omega) (by omega)
  have hln : -10000000001 < lnY y ∧ lnY y < 10000000001 := by unfold lnY; split <;> omega
  have c3 := fun W : World => yearAt_p (lnY y + (m - 1 + o) / 12) W (by omega) (by omega)
  have hbk0 : -1000000000000 < bkY (lnY y + (m - 1 + o) / 12) ∧ bkY (lnY y + (m - 1 + o) / 12) < 1000000000000 := by unfold bkY; split <;> omega
  have c4 := fun W : World => length_p (bkY (lnY y + (m - 1 + o) / 12)) ((m - 1 + o) % 12 + 1) W (by omega) (by omega) (by omega) (by omega)
  rw [ln_bk] at c4
  have hlen := len_in (l := lnY y + (m - 1 + o) / 12) (m := (m - 1 + o) % 12 + 1) (by omega) (by omega)
  have b1 : -100000000000 < (m - 1 + o) / 12 ∧ (m - 1 + o) / 12 < 100000000000 := by omega
  have b2 := emod_in (m - 1 + o) (show (0 : Int) < 12 by omega)
  have c5 := fun W : World => carry_p (n + pn) 1000000000 W (by omega) (by omega) (by omega) (by omega)
  have b3 : -100000000 < (n + pn) / 1000000000 ∧ (n + pn) / 1000000000 < 100000000 := by omega
  have b4 := emod_in (n + pn) (show (0 : Int) < 1000000000 by omega)
  have c6 := fun W : World => carry_p (s + ps + (n + pn) / 1000000000) 86400 W (by omega) (by omega) (by omega) (by omega)
  have b5 : -1000000000000 < (s + ps + (n + pn) / 1000000000) / 86400 ∧ (s + ps + (n + pn) / 1000000000) / 86400 < 1000000000000 := by omega
  have b6 := emod_in (s + ps + (n + pn) / 1000000000) (show (0 : Int) < 86400 by omega)
  have hE : addM ⟨k, y, m, d, s, n, hz, z⟩ ⟨o, ps, pn⟩ =
      ⟨k, bkY (civL (daysS (bkY (lnY y + (m - 1 + o) / 12)) ((m - 1 + o) % 12 + 1) (if lenL (lnY y + (m - 1 + o) / 12) ((m - 1 + o) % 12 + 1) < d then lenL (lnY y + (m - 1 + o) / 12) ((m - 1 + o) % 12 + 1) else d) + (s + ps + (n + pn) / 1000000000) / 86400)),
        (civM (daysS (bkY (lnY y + (m - 1 + o) / 12)) ((m - 1 + o) % 12 + 1) (if lenL (lnY y + (m - 1 + o) / 12) ((m - 1 + o) % 12 + 1) < d then lenL (lnY y + (m - 1 + o) / 12) ((m - 1 + o) % 12 + 1) else d) + (s + ps + (n + pn) / 1000000000) / 86400) : Nat),
        civD (daysS (bkY (lnY y + (m - 1 + o) / 12)) ((m - 1 + o) % 12 + 1) (if lenL (lnY y + (m - 1 + o) / 12) ((m - 1 + o) % 12 + 1) < d then lenL (lnY y + (m - 1 + o) / 12) ((m - 1 + o) % 12 + 1) else d) + (s + ps + (n + pn) / 1000000000) / 86400),
        (s + ps + (n + pn) / 1000000000) % 86400, (n + pn) % 1000000000, hz, z⟩ := rfl
  rw [hE]
  clear hE
  have hdb : ∀ l : Int, -100000000000000 < l → l < 100000000000000 → ∀ (j : Nat) (D : Int), j ≤ 12 → -10000000000 ≤ D → D ≤ 10000000000 → -99999999999999999 < dayN l j D ∧ dayN l j D < 99999999999999999 := by
    intro l l0 l1 j D hj D0 D1
    unfold dayN
    have := cum_nonneg l (j - 1)
    have := cum_le l (show j - 1 ≤ 12 by omega)
    unfold ahd
    omega
  clear hdb
  generalize hO : (m - 1 + o) % 12 = O at *
  generalize hV : (m - 1 + o) / 12 = V at *
  generalize hLy : lnY y = Ly at *
  generalize hNR : (n + pn) % 1000000000 = NR at *
  generalize hNV : (n + pn) / 1000000000 = NV at *
  generalize hSR : (s + ps + NV) % 86400 = SR at *
  generalize hSV : (s + ps + NV) / 86400 = SV at *
  have hY : lnY (bkY (Ly + V)) = Ly + V := ln_bk _
  generalize lenL (Ly + V) (O + 1) = LEN at *
  obtain ⟨hlen0, hlen1⟩ := hlen
  generalize hYY : bkY (Ly + V) = Y at *
  have hC : -10000000000 < (if LEN < d then LEN else d) ∧ (if LEN < d then LEN else d) < 10000000000 := by split <;> omega
  have hdays : -500000000000000 < daysS Y (O + 1) (if LEN < d then LEN else d) ∧ daysS Y (O + 1) (if LEN < d then LEN else d) < 500000000000000 := by
    unfold daysS dayN
    rw [hY]
    have h1 : (O + 1 - 1) / 12 = 0 := by omega
    rw [h1, Int.add_zero, Nat.add_sub_cancel]
    have := cum_nonneg (Ly + V) ((O + 1 - 1) % 12).toNat
    have := cum_le (Ly + V) (show ((O + 1 - 1) % 12).toNat ≤ 12 by omega)
    have ha : -200000000000000 < ahd (Ly + V) ∧ ahd (Ly + V) < 200000000000000 := by unfold ahd; omega
    have hb : ahd 2000 = 730485 := by decide
    omega
  have c7 := fun W : World => days_p Y (O + 1) (if LEN < d then LEN else d) W hbk0.1 hbk0.2 (by omega) (by omega) (by omega) (by omega)
  generalize hCC : (if LEN < d then LEN else d) = C at *
  have c8 := fun W : World => dayAt_p (daysS Y (O + 1) C + SV) W (by omega) (by omega)
  have HC : Hid _ := And.intro c1 (And.intro c2 (And.intro c3 (And.intro c4 (And.intro c5 (And.intro c6 (And.intro c7 c8))))))
  clear c1 c2 c3 c4 c5 c6 c7 c8
  generalize daysS Y (O + 1) C = DD at *
  have HCC : Hid _ := hCC
  obtain ⟨b11, b12⟩ := b1
  obtain ⟨b21, b22⟩ := b2
  obtain ⟨b31, b32⟩ := b3
  obtain ⟨b41, b42⟩ := b4
  obtain ⟨b51, b52⟩ := b5
  obtain ⟨b61, b62⟩ := b6
  obtain ⟨hdays0, hdays1⟩ := hdays
  obtain ⟨hC0, hC1⟩ := hC
  obtain ⟨hbk1, hbk2⟩ := hbk0
  obtain ⟨hln0, hln1⟩ := hln
  clear hO hV hLy hNR hNV hSR hSV hY hYY
  go_enter Tryz.func91, Tryz.ntmps91
  go_wp2_with (first | (go_at_call 134; with_reducible refine Calls.mono (HC.out.1 _) ?_; rintro e w' ⟨rfl, q1, rfl⟩) | (go_at_call 136; with_reducible refine Calls.mono (HC.out.2.1 _) ?_; rintro e w' ⟨rfl, rfl⟩)  | (go_at_call 135; with_reducible refine Calls.mono (HC.out.2.2.1 _) ?_; rintro e w' ⟨rfl, rfl⟩))
  have HA0 := AB.init w #[.int .i64 k, .int .i64 y, .int .i64 m, .int .i64 d, .int .i64 s, .int .i64 n, .bool hz, .int .i64 z] #[.int .i64 o, .int .i64 ps, .int .i64 pn] mo0 36 38 36
  obtain ⟨U, hU, HA⟩ := AB.ex (((HA0.drew q1).set 1 (.int .i64 Y)).set 2 (.int .i64 (O + 1)))
  rw [hU]
  clear hU HA0
  simp only [List.setIfInBounds_toArray, List.set_cons_zero, List.set_cons_succ] at HA
  obtain ⟨⟨g0, g1, g2, g3, g4, g5, g6, g7⟩, f0, f1, f2, f3, f4, f5, f6, f7⟩ := blk8 HA.x1
  have HAH : Hid _ := HA
  clear HA
  go_cut [] (fun wx => AB w wx #[.int .i64 k, .int .i64 Y, .int .i64 (O + 1), .int .i64 C, .int .i64 s, .int .i64 n, .bool hz, .int .i64 z] #[.int .i64 o, .int .i64 ps, .int .i64 pn] mo0 36 38 36)
  case first =>
    go_region_with ((go_at_call 137; (with_reducible refine Calls.mono (HC.out.2.2.2.1 _) ?_); rintro e w9 ⟨rfl, rfl⟩))
    all_goals
      go_wp2_with fail
      go_meet
      case rel => exact (HAH.out.set 3 (.int .i64 C)).drew 1
  case rest =>
    clear g0 g1 g2 g3 g4 g5 g6 g7 f0 f1 f2 f3 f4 f5 f6 f7 HAH
    obtain ⟨⟨g0, g1, g2, g3, g4, g5, g6, g7⟩, f0, f1, f2, f3, f4, f5, f6, f7⟩ := blk8 hcut.x1
    obtain ⟨p0, p1, p2⟩ := blk3 hcut.x2
    have HAH : Hid _ := hcut
    clear hcut
    go_wp2_with (first | (go_at_call 134; with_reducible refine Calls.mono (HC.out.2.2.2.2.1 _) ?_; rintro e w' ⟨rfl, q2, rfl⟩) | (go_at_call 134; with_reducible refine Calls.mono (HC.out.2.2.2.2.2.1 _) ?_; rintro e w' ⟨rfl, q3, rfl⟩))
    with_reducible refine Calls.mono (HC.out.2.2.2.2.2.2.1 _) ?_
    rintro e w5 ⟨rfl, hB5⟩
    have HA := ((((HAH.out.drew q2).set 5 (.int .i64 NR)).drew q3).set 4 (.int .i64 SR)).below hB5
    simp only [List.setIfInBounds_toArray, List.set_cons_zero, List.set_cons_succ] at HA
    clear hB5 HAH g0 g1 g2 g3 g4 g5 g6 g7 f0 f1 f2 f3 f4 f5 f6 f7 p0 p1 p2
    have HAH : Hid _ := HA
    clear HA
    go_wp2_with fail
    with_reducible refine Calls.mono (HC.out.2.2.2.2.2.2.2 _) ?_
    rintro e w6 ⟨rfl, hB6⟩
    have HA := HAH.out.below hB6
    clear HAH hB6
    obtain ⟨⟨g0, g1, g2, g3, g4, g5, g6, g7⟩, f0, f1, f2, f3, f4, f5, f6, f7⟩ := blk8 HA.x1
    obtain ⟨⟨r0, r1, r2, r3, r4, r5, r6, r7⟩, t0, t1, t2, t3, t4, t5, t6, t7⟩ := blk8 HA.x3
    have HAH : Hid _ := HA
    clear HA
    go_wp2_with fail
    have HA3 := ((HAH.out.set 1 (.int .i64 (bkY (civL (DD + SV))))).set 2 (.int .i64 (civM (DD + SV) : Nat))).set 3 (.int .i64 (civD (DD + SV)))
    obtain ⟨U2, hU2, hx2, hb2, _⟩ := put8 (X := w.heap.size + 1 + 1) HA3.hb (by omega) HA3.x3 (.int .i64 k) (.int .i64 (bkY (civL (DD + SV)))) (.int .i64 (civM (DD + SV) : Nat)) (.int .i64 (civD (DD + SV))) (.int .i64 SR) (.int .i64 NR) (.bool hz) (.int .i64 z)
    rw [hU2]
    obtain ⟨⟨k0, k1, k2, k3, k4, k5, k6, k7⟩, _⟩ := blk8 hx2
    clear hU2 HA3 g0 g1 g2 g3 g4 g5 g6 g7 f0 f1 f2 f3 f4 f5 f6 f7 r0 r1 r2 r3 r4 r5 r6 r7 t0 t1 t2 t3 t4 t5 t6 t7
    exact bodyPost_ret (v := moV ⟨k, bkY (civL (DD + SV)), (civM (DD + SV) : Nat), civD (DD + SV), SR, NR, hz, z⟩) (by simp [results, Tryz.results91, go_sem, k0, k1, k2, k3, k4, k5, k6, k7]) rfl ⟨rfl, hb2⟩
end Go.Proofs.YtgaegajcejpmdaaGreatDoor.Dt
namespace Go.Proofs.YtgaegajcejpmdaaGreatDoor.Dt
open Go.RowKit
set_option linter.unusedVariables false

def cmpI (a b : Int) : Int := if a < b then -1 else if b < a then 1 else 0
def lex3 (a b c x y z : Int) : Int := if cmpI a x ≠ 0 then cmpI a x else if cmpI b y ≠ 0 then cmpI b y else cmpI c z
theorem nan_p (a : Int) (w : World) : Calls Tryz.prog 142 #[.int .i64 a] w fun e w' => e = .returned (.bool false) ∧ w' = w := by
  go_enter Tryz.func142, Tryz.ntmps142
  go_wp2_with fail
  go_ret
  exact ⟨ret_bool (by simp), rfl⟩
theorem compare_p (a b : Int) (w : World) : Calls Tryz.prog 99 #[.int .i64 a, .int .i64 b] w fun e w' => e = .returned (.int .i64 (cmpI a b)) ∧ w' = w := by
  unfold cmpI
  by_cases h : a < b
  · rw [if_pos h]
    go_enter Tryz.func99, Tryz.ntmps99
    go_wp2_with (first | (go_at_call 142; refine Calls.mono (nan_p _ _) ?_; rintro e w' ⟨rfl, rfl⟩))
    go_ret
    exact ⟨rfl, rfl⟩
  · rw [if_neg h]
    by_cases h' : b < a
    · rw [if_pos h']
      go_enter Tryz.func99, Tryz.ntmps99
      go_wp2_with (first | (go_at_call 142; refine Calls.mono (nan_p _ _) ?_; rintro e w' ⟨rfl, rfl⟩))
      go_ret
      exact ⟨rfl, rfl⟩
    · rw [if_neg h']
      go_enter Tryz.func99, Tryz.ntmps99
      go_wp2_with (first | (go_at_call 142; refine Calls.mono (nan_p _ _) ?_; rintro e w' ⟨rfl, rfl⟩))
      go_ret
      exact ⟨rfl, rfl⟩
set_option maxHeartbeats 400000 in
theorem compare3_p (a b c x y z : Int) (A B : Nat) (w : World) (hA : w.heap[A]? = some (.cells #[.int .i64 a, .int .i64 b, .int .i64 c] 3 (0, 0))) (hB : w.heap[B]? = some (.cells #[.int .i64 x, .int .i64 y, .int .i64 z] 3 (0, 0))) :
    Calls Tryz.prog 132 #[.slice (some ⟨A, 0, none⟩) 3 3, .slice (some ⟨B, 0, none⟩) 3 3] w fun e w' => e = .returned (.int .i64 (lex3 a b c x y z)) ∧ w' = w := by
  obtain ⟨a0, a1, a2⟩ := blk3 hA
  obtain ⟨b0, b1, b2⟩ := blk3 hB
  have HC : Hid _ := And.intro (compare_p a x w) (And.intro (compare_p b y w) (compare_p c z w))
  clear hA hB
  unfold lex3
  generalize cmpI a x = r1 at *
  generalize cmpI b y = r2 at *
  generalize cmpI c z = r3 at *
  by_cases h1 : r1 = 0
  · subst h1
    rw [if_neg (by simp)]
    by_cases h2 : r2 = 0
    · subst h2
      rw [if_neg (by simp)]
      by_cases h3 : r3 = 0
      · subst h3
        go_enter Tryz.func132, Tryz.ntmps132
        go_wp2_with fail
        refine wp_loop_rounds 4 ?_
        rw [rounds_succ]
        go_wp2_with (first | (go_at_call 99; with_reducible refine Calls.mono HC.out.1 ?_; rintro e w' ⟨rfl, rfl⟩))
        rw [rounds_succ]
        go_wp2_with (first | (go_at_call 99; with_reducible refine Calls.mono HC.out.2.1 ?_; rintro e w' ⟨rfl, rfl⟩))
        rw [rounds_succ]
        go_wp2_with (first | (go_at_call 99; with_reducible refine Calls.mono HC.out.2.2 ?_; rintro e w' ⟨rfl, rfl⟩))
        rw [rounds_succ]
        go_wp2_with fail
        go_ret
        exact ⟨rfl, rfl⟩
      · have h3' : (r3 != 0) = true := by simpa using h3
        go_enter Tryz.func132, Tryz.ntmps132
        go_wp2_with fail
        refine wp_loop_rounds 4 ?_
        rw [rounds_succ]
        go_wp2_with (first | (go_at_call 99; with_reducible refine Calls.mono HC.out.1 ?_; rintro e w' ⟨rfl, rfl⟩))
        rw [rounds_succ]
        go_wp2_with (first | (go_at_call 99; with_reducible refine Calls.mono HC.out.2.1 ?_; rintro e w' ⟨rfl, rfl⟩))
        rw [rounds_succ]
        go_wp2_with (first | (go_at_call 99; with_reducible refine Calls.mono HC.out.2.2 ?_; rintro e w' ⟨rfl, rfl⟩))
        go_ret
        exact ⟨rfl, rfl⟩
    · rw [if_pos h2]
      have h2' : (r2 != 0) = true := by simpa using h2
      go_enter Tryz.func132, Tryz.ntmps132
      go_wp2_with fail
      refine wp_loop_rounds 3 ?_
      rw [rounds_succ]
      go_wp2_with (first | (go_at_call 99; with_reducible refine Calls.mono HC.out.1 ?_; rintro e w' ⟨rfl, rfl⟩))
      rw [rounds_succ]
      go_wp2_with (first | (go_at_call 99; with_reducible refine Calls.mono HC.out.2.1 ?_; rintro e w' ⟨rfl, rfl⟩))
      go_ret
      exact ⟨rfl, rfl⟩
  · rw [if_pos h1]
    have h1' : (r1 != 0) = true := by simpa using h1
    go_enter Tryz.func132, Tryz.ntmps132
    go_wp2_with fail
    refine wp_loop_rounds 2 ?_
    rw [rounds_succ]
    go_wp2_with (first | (go_at_call 99; with_reducible refine Calls.mono HC.out.1 ?_; rintro e w' ⟨rfl, rfl⟩))
    go_ret
    exact ⟨rfl, rfl⟩
/-- A moment's line: its days, its seconds, its nanoseconds. -/
theorem lex_ord {D s n E t m : Int} (hn0 : 0 ≤ n) (hn1 : n < 1000000000) (hm0 : 0 ≤ m) (hm1 : m < 1000000000) :
    lex3 (D + (s + n / 1000000000) / 86400) ((s + n / 1000000000) % 86400) (n % 1000000000) (E + (t + m / 1000000000) / 86400) ((t + m / 1000000000) % 86400) (m % 1000000000) = ordS (86400 * D + s) n (86400 * E + t) m := by
  unfold lex3 cmpI ordS
  rw [show n / 1000000000 = 0 by omega, show m / 1000000000 = 0 by omega, show n % 1000000000 = n by omega, show m % 1000000000 = m by omega, Int.add_zero, Int.add_zero]
  repeat' split
  all_goals omega
set_option maxHeartbeats 400000 in
theorem line_p (a : Mo) (w : World) (ha : MoB a) (hz0 : -1000000 < a.z) (hz1 : a.z < 1000000) : Calls Tryz.prog 133 #[moV a] w fun e w' => ∃ b, e = .returned (.slice (some ⟨b, 0, none⟩) 3 3) ∧ w'.heap[b]? = some (.cells #[.int .i64 (daysS a.y a.m a.d + (a.s - 60 * a.z + a.n / 1000000000) / 86400), .int .i64 ((a.s - 60 * a.z + a.n / 1000000000) % 86400), .int .i64 (a.n % 1000000000)] 3 (0, 0)) ∧ Below w.heap.size w w' := by
  obtain ⟨k, y, m, d, s, n, hz, z⟩ := a
  obtain ⟨y0, y1, m0, m1, d0, d1, s0, s1, n0, n1⟩ := ha
  dsimp only at *
  have c1 := fun W : World => carry_p n 1000000000 W (by omega) (by omega) (by omega) (by omega)
  have b3 : -100000000 < n / 1000000000 ∧ n / 1000000000 < 100000000 := by omega
  have b4 := emod_in n (show (0 : Int) < 1000000000 by omega)
  have c2 := fun W : World => carry_p (s - 60 * z + n / 1000000000) 86400 W (by omega) (by omega) (by omega) (by omega)
  have b5 : -1000000000000 < (s - 60 * z + n / 1000000000) / 86400 ∧ (s - 60 * z + n / 1000000000) / 86400 < 1000000000000 := by omega
  have b6 := emod_in (s - 60 * z + n / 1000000000) (show (0 : Int) < 86400 by omega)
  have c3 := fun W : World => days_p y m d W (by omega) (by omega) (by omega) (by omega) (by omega) (by omega)
  have hd : -100000000000000 < daysS y m d ∧ daysS y m d < 100000000000000 := by
    unfold daysS dayN
    have hl : -20000000000 < lnY y + (m - 1) / 12 ∧ lnY y + (m - 1) / 12 < 20000000000 := by unfold lnY; split <;> omega
    generalize lnY y + (m - 1) / 12 = l at *
    rw [Nat.add_sub_cancel]
    have := cum_nonneg l ((m - 1) % 12).toNat
    have := cum_le l (show ((m - 1) % 12).toNat ≤ 12 by omega)
    have ha : -20000000000000 < ahd l ∧ ahd l < 20000000000000 := by unfold ahd; omega
    have hb : ahd 2000 = 730485 := by decide
    omega
  have HC : Hid _ := And.intro c1 (And.intro c2 c3)
  clear c1 c2 c3
  generalize n / 1000000000 = NV at *
  generalize n % 1000000000 = NR at *
  generalize (s - 60 * z + NV) / 86400 = SV at *
  generalize (s - 60 * z + NV) % 86400 = SR at *
  generalize daysS y m d = DD at *
  obtain ⟨b31, b32⟩ := b3
  obtain ⟨b41, b42⟩ := b4
  obtain ⟨b51, b52⟩ := b5
  obtain ⟨b61, b62⟩ := b6
  obtain ⟨hd0, hd1⟩ := hd
  go_enter Tryz.func133, Tryz.ntmps133
  go_wp2_with (first | (go_at_call 134; with_reducible refine Calls.mono (HC.out.1 _) ?_; rintro e w' ⟨rfl, q2, rfl⟩) | (go_at_call 134; with_reducible refine Calls.mono (HC.out.2.1 _) ?_; rintro e w' ⟨rfl, q3, rfl⟩))
  with_reducible refine Calls.mono (HC.out.2.2 _) ?_
  rintro e w5 ⟨rfl, hB5⟩
  have hb0 := bdrewN (bdrewN ((Below.refl w.heap.size w).alloc (Nat.le_refl _) (.cells #[.int .i64 k, .int .i64 y, .int .i64 m, .int .i64 d, .int .i64 s, .int .i64 n, .bool hz, .int .i64 z] 36)) q2) q3
  rw [World.drewN_drewN] at hb0
  have HB : Hid (Below w.heap.size w w5) := hb0.trans (hB5.mono hb0.size)
  clear hb0 hB5
  go_wp2_with fail
  go_ret
  refine ⟨_, rfl, nw_heap _ _, HB.out.alloc HB.out.size _⟩
end Go.Proofs.YtgaegajcejpmdaaGreatDoor.Dt
namespace Go.Proofs.YtgaegajcejpmdaaGreatDoor.Dt
open Go.RowKit
set_option linter.unusedVariables false

theorem box2 (w : World) (A B : Obj) : ((w.alloc A).alloc B).heap[w.heap.size]? = some A ∧ ((w.alloc A).alloc B).heap[w.heap.size + 1]? = some B ∧ Below w.heap.size w ((w.alloc A).alloc B) := by
  have hA := nw_heap w A
  have hB := nw_heap (w.alloc A) B
  have b1 : Below (w.alloc A).heap.size (w.alloc A) ((w.alloc A).alloc B) := (Below.refl _ _).alloc (Nat.le_refl _) _
  rw [sza] at hB
  exact ⟨(b1.block _ (by simp)).trans hA, hB, ((Below.refl _ _).alloc (Nat.le_refl _) _).alloc (by simp) _⟩
/-- Bounds for a moment whose line is asked. -/
structure MoL (a : Mo) : Prop where
  b : MoB a
  n0 : 0 ≤ a.n
  n1 : a.n < 1000000000
  z0 : -1000000 < a.z
  z1 : a.z < 1000000
set_option maxHeartbeats 1000000 in
theorem byLines_p (a b : Mo) (w : World) (ha : MoL a) (hb : MoL b) : Calls Tryz.prog 88 #[moV a, moV b] w fun e w' => e = .returned (.int .i64 (ordS (linS a a.z) a.n (linS b b.z) b.n)) ∧ Below w.heap.size w w' := by
  have hlx := lex_ord (D := daysS a.y a.m a.d) (s := a.s - 60 * a.z) (E := daysS b.y b.m b.d) (t := b.s - 60 * b.z) ha.n0 ha.n1 hb.n0 hb.n1
  have e1 : ordS (linS a a.z) a.n (linS b b.z) b.n = ordS (86400 * daysS a.y a.m a.d + (a.s - 60 * a.z)) a.n (86400 * daysS b.y b.m b.d + (b.s - 60 * b.z)) b.n := by
    unfold linS
    rw [Int.add_sub_assoc, Int.add_sub_assoc]
  rw [e1, ← hlx]
  clear e1 hlx
  obtain ⟨x1, x2, hb0⟩ := box2 w (.cells (moC a) 36) (.cells (moC b) 36)
  have ql := fun W : World => line_p a W ha.b ha.z0 ha.z1
  have qr := fun W : World => line_p b W hb.b hb.z0 hb.z1
  have qc := compare3_p (daysS a.y a.m a.d + (a.s - 60 * a.z + a.n / 1000000000) / 86400) ((a.s - 60 * a.z + a.n / 1000000000) % 86400) (a.n % 1000000000) (daysS b.y b.m b.d + (b.s - 60 * b.z + b.n / 1000000000) / 86400) ((b.s - 60 * b.z + b.n / 1000000000) % 86400) (b.n % 1000000000)
  generalize daysS a.y a.m a.d + (a.s - 60 * a.z + a.n / 1000000000) / 86400 = A1 at *
  generalize (a.s - 60 * a.z + a.n / 1000000000) % 86400 = A2 at *
  generalize a.n % 1000000000 = A3 at *
  generalize daysS b.y b.m b.d + (b.s - 60 * b.z + b.n / 1000000000) / 86400 = B1 at *
  generalize (b.s - 60 * b.z + b.n / 1000000000) % 86400 = B2 at *
  generalize b.n % 1000000000 = B3 at *
  clear ha hb
  go_enter Tryz.func88, Tryz.ntmps88
  go_wp2_with fail
  generalize hU : ((w.alloc (.cells (moC a) 36)).alloc (.cells (moC b) 36)) = U at *
  clear hU
  have hkp : ∀ W, Below U.heap.size U W → (W.cell? ⟨w.heap.size, 0, none⟩ = some (.int .i64 a.k) ∧ W.cell? ⟨w.heap.size, 1, none⟩ = some (.int .i64 a.y) ∧ W.cell? ⟨w.heap.size, 2, none⟩ = some (.int .i64 a.m) ∧ W.cell? ⟨w.heap.size, 3, none⟩ = some (.int .i64 a.d) ∧ W.cell? ⟨w.heap.size, 4, none⟩ = some (.int .i64 a.s) ∧ W.cell? ⟨w.heap.size, 5, none⟩ = some (.int .i64 a.n) ∧ W.cell? ⟨w.heap.size, 6, none⟩ = some (.bool a.hz) ∧ W.cell? ⟨w.heap.size, 7, none⟩ = some (.int .i64 a.z) ∧ W.cell? ⟨w.heap.size + 1, 0, none⟩ = some (.int .i64 b.k) ∧ W.cell? ⟨w.heap.size + 1, 1, none⟩ = some (.int .i64 b.y) ∧ W.cell? ⟨w.heap.size + 1, 2, none⟩ = some (.int .i64 b.m) ∧ W.cell? ⟨w.heap.size + 1, 3, none⟩ = some (.int .i64 b.d) ∧ W.cell? ⟨w.heap.size + 1, 4, none⟩ = some (.int .i64 b.s) ∧ W.cell? ⟨w.heap.size + 1, 5, none⟩ = some (.int .i64 b.n) ∧ W.cell? ⟨w.heap.size + 1, 6, none⟩ = some (.bool b.hz) ∧ W.cell? ⟨w.heap.size + 1, 7, none⟩ = some (.int .i64 b.z)) := fun W hW => by
    obtain ⟨⟨g0, g1, g2, g3, g4, g5, g6, g7⟩, _⟩ := blk8 ((hW.block _ (lt_of x1)).trans x1)
    obtain ⟨⟨h0, h1, h2, h3, h4, h5, h6, h7⟩, _⟩ := blk8 ((hW.block _ (lt_of x2)).trans x2)
    exact ⟨g0, g1, g2, g3, g4, g5, g6, g7, h0, h1, h2, h3, h4, h5, h6, h7⟩
  obtain ⟨g0, g1, g2, g3, g4, g5, g6, g7, h0, h1, h2, h3, h4, h5, h6, h7⟩ := hkp U.drew (below_drewN 1)
  have HB : Hid (Below U.heap.size U U.drew) := below_drewN 1
  have HKP : Hid _ := hkp
  have HC : Hid _ := And.intro ql (And.intro qr (And.intro qc hb0))
  clear hkp x1 x2 hb0 ql qr qc
  go_region_held3 (fun W => W.cell? ⟨w.heap.size, 0, none⟩ = some (.int .i64 a.k) ∧ W.cell? ⟨w.heap.size, 1, none⟩ = some (.int .i64 a.y) ∧ W.cell? ⟨w.heap.size, 2, none⟩ = some (.int .i64 a.m) ∧ W.cell? ⟨w.heap.size, 3, none⟩ = some (.int .i64 a.d) ∧ W.cell? ⟨w.heap.size, 4, none⟩ = some (.int .i64 a.s) ∧ W.cell? ⟨w.heap.size, 5, none⟩ = some (.int .i64 a.n) ∧ W.cell? ⟨w.heap.size, 6, none⟩ = some (.bool a.hz) ∧ W.cell? ⟨w.heap.size, 7, none⟩ = some (.int .i64 a.z) ∧ W.cell? ⟨w.heap.size + 1, 0, none⟩ = some (.int .i64 b.k) ∧ W.cell? ⟨w.heap.size + 1, 1, none⟩ = some (.int .i64 b.y) ∧ W.cell? ⟨w.heap.size + 1, 2, none⟩ = some (.int .i64 b.m) ∧ W.cell? ⟨w.heap.size + 1, 3, none⟩ = some (.int .i64 b.d) ∧ W.cell? ⟨w.heap.size + 1, 4, none⟩ = some (.int .i64 b.s) ∧ W.cell? ⟨w.heap.size + 1, 5, none⟩ = some (.int .i64 b.n) ∧ W.cell? ⟨w.heap.size + 1, 6, none⟩ = some (.bool b.hz) ∧ W.cell? ⟨w.heap.size + 1, 7, none⟩ = some (.int .i64 b.z)) (first | exact ⟨g0, g1, g2, g3, g4, g5, g6, g7, h0, h1, h2, h3, h4, h5, h6, h7⟩ | fail) (first
    | (go_at_call 133; (with_reducible refine Calls.mono (HC.out.1 _) ?_); rintro e w1 ⟨b1, rfl, hx1, hb1⟩; have hbb := HB.out.trans (hb1.mono HB.out.size); clear HB g0 g1 g2 g3 g4 g5 g6 g7 h0 h1 h2 h3 h4 h5 h6 h7; obtain ⟨g0, g1, g2, g3, g4, g5, g6, g7, h0, h1, h2, h3, h4, h5, h6, h7⟩ := HKP.out _ hbb; have HB : Hid _ := hbb; have HX1 : Hid _ := hx1; clear hbb hb1 hx1)
    | (go_at_call 133; (with_reducible refine Calls.mono (HC.out.2.1 _) ?_); rintro e w2 ⟨b2, rfl, hx2, hb2⟩; have hbb := HB.out.trans (hb2.mono HB.out.size); clear HB g0 g1 g2 g3 g4 g5 g6 g7 h0 h1 h2 h3 h4 h5 h6 h7; obtain ⟨g0, g1, g2, g3, g4, g5, g6, g7, h0, h1, h2, h3, h4, h5, h6, h7⟩ := HKP.out _ hbb; have HB : Hid _ := hbb; have HX2 : Hid _ := And.intro hx2 ((hb2.block _ (lt_of HX1.out)).trans HX1.out); clear hbb hb2 hx2)
    | (go_at_call 132; (with_reducible refine Calls.mono (HC.out.2.2.1 _ _ _ HX2.out.2 HX2.out.1) ?_); rintro e w3 ⟨rfl, hw3⟩; subst hw3)
    | fail)
  all_goals
    go_wp2_with fail
    go_ret
    exact ⟨rfl, HC.out.2.2.2.trans (HB.out.mono HC.out.2.2.2.size)⟩
end Go.Proofs.YtgaegajcejpmdaaGreatDoor.Dt
namespace Go.Proofs.YtgaegajcejpmdaaGreatDoor.Dt
open Go.RowKit
set_option linter.unusedVariables false

def ptZ (a : Mo) (z : Int) : Mo := if a.hz then a else { a with z := z }
set_option maxHeartbeats 400000 in
theorem put_p (a : Mo) (z : Int) (w : World) : Calls Tryz.prog 89 #[moV a, .int .i64 z] w fun e w' => e = .returned (moV (ptZ a z)) ∧ Below w.heap.size w w' := by
  obtain ⟨k, y, m, d, s, n, hz, z0⟩ := a
  cases hz
  · have e1 : ptZ ⟨k, y, m, d, s, n, false, z0⟩ z = ⟨k, y, m, d, s, n, false, z⟩ := rfl
    rw [e1]
    go_enter Tryz.func89, Tryz.ntmps89
    go_wp2_with fail
    exact bodyPost_ret (v := moV ⟨k, y, m, d, s, n, false, z⟩) (by simp [results, Tryz.results89, go_sem]) rfl ⟨rfl, ((Below.refl _ _).alloc (Nat.le_refl _) _).alloc (by simp) _⟩
  · have e1 : ptZ ⟨k, y, m, d, s, n, true, z0⟩ z = ⟨k, y, m, d, s, n, true, z0⟩ := rfl
    rw [e1]
    go_enter Tryz.func89, Tryz.ntmps89
    go_wp2_with fail
    exact bodyPost_ret (v := moV ⟨k, y, m, d, s, n, true, z0⟩) (by simp [results, Tryz.results89, go_sem]) rfl ⟨rfl, ((Below.refl _ _).alloc (Nat.le_refl _) _).alloc (by simp) _⟩
theorem ptZ_L {a : Mo} (h : MoL a) {z : Int} (h0 : -1000000 < z) (h1 : z < 1000000) : MoL (ptZ a z) := by
  obtain ⟨k, y, m, d, s, n, hz, z0⟩ := a
  obtain ⟨⟨y0, y1, m0, m1, d0, d1, s0, s1, n0, n1⟩, n2, n3, z2, z3⟩ := h
  cases hz
  · exact ⟨⟨y0, y1, m0, m1, d0, d1, s0, s1, n0, n1⟩, n2, n3, h0, h1⟩
  · exact ⟨⟨y0, y1, m0, m1, d0, d1, s0, s1, n0, n1⟩, n2, n3, z2, z3⟩
/-- The order by two zones, of the one that tells none. -/
def byZ (a b : Mo) (z : Int) : Int := ordS (linS (ptZ a z) (ptZ a z).z) (ptZ a z).n (linS (ptZ b z) (ptZ b z).z) (ptZ b z).n
theorem ord_mix (P p Q q : Int) : (if ordS P p (Q - 60 * 840) q = ordS P p (Q - 60 * (-840)) q ∧ ordS P p (Q - 60 * 840) q ≠ 0 then ordS P p (Q - 60 * 840) q else 2) = if ordS P p (Q - 60 * 840) q ≠ ordS P p (Q - 60 * (-840)) q then 2 else ordS P p (Q - 60 * 840) q := by
  have h : ¬ (ordS P p (Q - 60 * 840) q = 0 ∧ ordS P p (Q - 60 * (-840)) q = 0) := by
    unfold ordS
    split
    · simp
    · split
      · split
        · simp
        · split <;> omega
      · simp
  generalize ordS P p (Q - 60 * 840) q = x at *
  generalize ordS P p (Q - 60 * (-840)) q = y at *
  split <;> split <;> omega
theorem cmp_byZ {a b : Mo} (hk : a.k = b.k) (hz : a.hz ≠ b.hz) : cmpM a b = if byZ a b 840 ≠ byZ a b (-840) then 2 else byZ a b 840 := by
  unfold cmpM
  rw [if_neg (by simpa using hk), if_neg hz]
  obtain ⟨ka, ya, ma, da, sa, na, hza, za⟩ := a
  obtain ⟨kb, yb, mb, db, sb, nb, hzb, zb⟩ := b
  dsimp only at *
  unfold byZ ptZ mixS linS
  cases hza <;> cases hzb
  · exact absurd rfl hz
  · simp only [Bool.false_eq_true, if_false, if_true]
    have h := ord_mix (86400 * daysS yb mb db + sb - 60 * zb) nb (86400 * daysS ya ma da + sa) na
    rw [ord_swap (86400 * daysS yb mb db + sb - 60 * zb) nb (86400 * daysS ya ma da + sa - 60 * 840) na, ord_swap (86400 * daysS yb mb db + sb - 60 * zb) nb (86400 * daysS ya ma da + sa - 60 * (-840)) na]
    rw [h]
    have h1 := ord_in (86400 * daysS yb mb db + sb - 60 * zb) nb (86400 * daysS ya ma da + sa - 60 * 840) na
    generalize ordS (86400 * daysS yb mb db + sb - 60 * zb) nb (86400 * daysS ya ma da + sa - 60 * 840) na = x at *
    generalize ordS (86400 * daysS yb mb db + sb - 60 * zb) nb (86400 * daysS ya ma da + sa - 60 * (-840)) na = y at *
    by_cases c : x = y
    · subst c
      simp
      omega
    · rw [if_pos c, if_pos rfl, if_pos (by omega)]
  · simp only [Bool.false_eq_true, if_false, if_true]
    exact ord_mix _ _ _ _
  · exact absurd rfl hz
set_option maxHeartbeats 1000000 in
theorem cmp_p (a b : Mo) (w : World) (ha : MoL a) (hb : MoL b) : Calls Tryz.prog 49 #[moV a, moV b] w fun e w' => e = .returned (.int .i64 (cmpM a b)) ∧ Below w.heap.size w w' := by
  obtain ⟨x1, x2, hb0⟩ := box2 w (.cells (moC a) 36) (.cells (moC b) 36)
  have q0 := fun W : World => byLines_p a b W ha hb
  have q1 := fun W : World => put_p a 840 W
  have q2 := fun W : World => put_p b 840 W
  have q3 := fun W : World => byLines_p (ptZ a 840) (ptZ b 840) W (ptZ_L ha (by omega) (by omega)) (ptZ_L hb (by omega) (by omega))
  have q4 := fun W : World => put_p a (-840) W
  have q5 := fun W : World => put_p b (-840) W
  have q6 := fun W : World => byLines_p (ptZ a (-840)) (ptZ b (-840)) W (ptZ_L ha (by omega) (by omega)) (ptZ_L hb (by omega) (by omega))
  have hE := cmp_byZ (a := a) (b := b)
  unfold byZ at hE
  have hF : a.k = b.k → a.hz = b.hz → cmpM a b = ordS (linS a a.z) a.n (linS b b.z) b.n := cmp_eq
  have hG : ¬ a.k = b.k → cmpM a b = 2 := fun h => by unfold cmpM; rw [if_pos h]
  generalize ordS (linS a a.z) a.n (linS b b.z) b.n = R0 at *
  generalize ordS (linS (ptZ a 840) (ptZ a 840).z) (ptZ a 840).n (linS (ptZ b 840) (ptZ b 840).z) (ptZ b 840).n = R1 at *
  generalize ordS (linS (ptZ a (-840)) (ptZ a (-840)).z) (ptZ a (-840)).n (linS (ptZ b (-840)) (ptZ b (-840)).z) (ptZ b (-840)).n = R2 at *
  have HC : Hid _ := And.intro q0 (And.intro q1 (And.intro q2 (And.intro q3 (And.intro q4 (And.intro q5 (And.intro q6 hb0))))))
  clear q0 q1 q2 q3 q4 q5 q6 hb0 ha hb
  generalize ptZ a 840 = a1 at *
  generalize ptZ b 840 = b1 at *
  generalize ptZ a (-840) = a2 at *
  generalize ptZ b (-840) = b2 at *
  generalize cmpM a b = R at *
  have HE : Hid _ := And.intro hE (And.intro hF hG)
  clear hE hF hG
  generalize hU : ((w.alloc (.cells (moC a) 36)).alloc (.cells (moC b) 36)) = U at *
  have hkp : ∀ W, Below U.heap.size U W → (W.cell? ⟨w.heap.size, 0, none⟩ = some (.int .i64 a.k) ∧ W.cell? ⟨w.heap.size, 1, none⟩ = some (.int .i64 a.y) ∧ W.cell? ⟨w.heap.size, 2, none⟩ = some (.int .i64 a.m) ∧ W.cell? ⟨w.heap.size, 3, none⟩ = some (.int .i64 a.d) ∧ W.cell? ⟨w.heap.size, 4, none⟩ = some (.int .i64 a.s) ∧ W.cell? ⟨w.heap.size, 5, none⟩ = some (.int .i64 a.n) ∧ W.cell? ⟨w.heap.size, 6, none⟩ = some (.bool a.hz) ∧ W.cell? ⟨w.heap.size, 7, none⟩ = some (.int .i64 a.z) ∧ W.cell? ⟨w.heap.size + 1, 0, none⟩ = some (.int .i64 b.k) ∧ W.cell? ⟨w.heap.size + 1, 1, none⟩ = some (.int .i64 b.y) ∧ W.cell? ⟨w.heap.size + 1, 2, none⟩ = some (.int .i64 b.m) ∧ W.cell? ⟨w.heap.size + 1, 3, none⟩ = some (.int .i64 b.d) ∧ W.cell? ⟨w.heap.size + 1, 4, none⟩ = some (.int .i64 b.s) ∧ W.cell? ⟨w.heap.size + 1, 5, none⟩ = some (.int .i64 b.n) ∧ W.cell? ⟨w.heap.size + 1, 6, none⟩ = some (.bool b.hz) ∧ W.cell? ⟨w.heap.size + 1, 7, none⟩ = some (.int .i64 b.z)) := fun W hW => by
    obtain ⟨⟨g0, g1, g2, g3, g4, g5, g6, g7⟩, _⟩ := blk8 ((hW.block _ (lt_of x1)).trans x1)
    obtain ⟨⟨h0, h1, h2, h3, h4, h5, h6, h7⟩, _⟩ := blk8 ((hW.block _ (lt_of x2)).trans x2)
    exact ⟨g0, g1, g2, g3, g4, g5, g6, g7, h0, h1, h2, h3, h4, h5, h6, h7⟩
  have HKP : Hid _ := hkp
  clear hkp x1 x2
  have HU : Hid _ := hU
  clear hU
  by_cases hk : a.k = b.k
  · by_cases hz : a.hz = b.hz
    · obtain rfl := HE.out.2.1 hk hz
      have hzz : (a.hz == b.hz) = true := by simpa using hz
      have hkk : (a.k == b.k) = true := by simpa using hk
      have hkn : (a.k != b.k) = false := by simpa using hk
      clear hk hz HE
      go_enter Tryz.func49, Tryz.ntmps49
      go_wp2_with (first | (go_at_call 88; (with_reducible refine Calls.mono (HC.out.1 _) ?_); rintro e w1 ⟨rfl, hb1⟩))
      go_ret
      rw [HU.out] at hb1
      exact ⟨rfl, HC.out.2.2.2.2.2.2.2.trans (hb1.mono HC.out.2.2.2.2.2.2.2.size)⟩
    · have hR := HE.out.1 hk hz
      have HR : Hid _ := hR
      have hzz : (a.hz == b.hz) = false := by simpa using hz
      have hkk : (a.k == b.k) = true := by simpa using hk
      have hkn : (a.k != b.k) = false := by simpa using hk
      clear hR HE hk hz
      go_enter Tryz.func49, Tryz.ntmps49
      go_wp2_with fail
      have hU := HU.out
      rw [hU]
      clear hU
      obtain ⟨g0, g1, g2, g3, g4, g5, g6, g7, h0, h1, h2, h3, h4, h5, h6, h7⟩ := HKP.out U.drew (below_drewN 1)
      have HB : Hid (Below U.heap.size U U.drew) := below_drewN 1
      go_region_held3 (fun W => W.cell? ⟨w.heap.size, 0, none⟩ = some (.int .i64 a.k) ∧ W.cell? ⟨w.heap.size, 1, none⟩ = some (.int .i64 a.y) ∧ W.cell? ⟨w.heap.size, 2, none⟩ = some (.int .i64 a.m) ∧ W.cell? ⟨w.heap.size, 3, none⟩ = some (.int .i64 a.d) ∧ W.cell? ⟨w.heap.size, 4, none⟩ = some (.int .i64 a.s) ∧ W.cell? ⟨w.heap.size, 5, none⟩ = some (.int .i64 a.n) ∧ W.cell? ⟨w.heap.size, 6, none⟩ = some (.bool a.hz) ∧ W.cell? ⟨w.heap.size, 7, none⟩ = some (.int .i64 a.z) ∧ W.cell? ⟨w.heap.size + 1, 0, none⟩ = some (.int .i64 b.k) ∧ W.cell? ⟨w.heap.size + 1, 1, none⟩ = some (.int .i64 b.y) ∧ W.cell? ⟨w.heap.size + 1, 2, none⟩ = some (.int .i64 b.m) ∧ W.cell? ⟨w.heap.size + 1, 3, none⟩ = some (.int .i64 b.d) ∧ W.cell? ⟨w.heap.size + 1, 4, none⟩ = some (.int .i64 b.s) ∧ W.cell? ⟨w.heap.size + 1, 5, none⟩ = some (.int .i64 b.n) ∧ W.cell? ⟨w.heap.size + 1, 6, none⟩ = some (.bool b.hz) ∧ W.cell? ⟨w.heap.size + 1, 7, none⟩ = some (.int .i64 b.z)) (first | exact ⟨g0, g1, g2, g3, g4, g5, g6, g7, h0, h1, h2, h3, h4, h5, h6, h7⟩ | fail) (first
      | (go_at_call 89; (with_reducible refine Calls.mono (HC.out.2.1 _) ?_); rintro e w1 ⟨rfl, hb1⟩; have hbb := HB.out.trans (hb1.mono HB.out.size); clear HB g0 g1 g2 g3 g4 g5 g6 g7 h0 h1 h2 h3 h4 h5 h6 h7; obtain ⟨g0, g1, g2, g3, g4, g5, g6, g7, h0, h1, h2, h3, h4, h5, h6, h7⟩ := HKP.out _ hbb; have HB : Hid _ := hbb; clear hbb hb1)
      | (go_at_call 89; (with_reducible refine Calls.mono (HC.out.2.2.1 _) ?_); rintro e w1 ⟨rfl, hb1⟩; have hbb := HB.out.trans (hb1.mono HB.out.size); clear HB g0 g1 g2 g3 g4 g5 g6 g7 h0 h1 h2 h3 h4 h5 h6 h7; obtain ⟨g0, g1, g2, g3, g4, g5, g6, g7, h0, h1, h2, h3, h4, h5, h6, h7⟩ := HKP.out _ hbb; have HB : Hid _ := hbb; clear hbb hb1)
      | (go_at_call 88; (with_reducible refine Calls.mono (HC.out.2.2.2.1 _) ?_); rintro e w1 ⟨rfl, hb1⟩; have hbb := HB.out.trans (hb1.mono HB.out.size); clear HB g0 g1 g2 g3 g4 g5 g6 g7 h0 h1 h2 h3 h4 h5 h6 h7; obtain ⟨g0, g1, g2, g3, g4, g5, g6, g7, h0, h1, h2, h3, h4, h5, h6, h7⟩ := HKP.out _ hbb; have HB : Hid _ := hbb; clear hbb hb1)
      | fail)
      go_wp2_with fail
      have HB2 : Hid (Below U.heap.size U w1.drew) := bdrewN HB.out 1
      clear HB g0 g1 g2 g3 g4 g5 g6 g7 h0 h1 h2 h3 h4 h5 h6 h7
      obtain ⟨g0, g1, g2, g3, g4, g5, g6, g7, h0, h1, h2, h3, h4, h5, h6, h7⟩ := HKP.out w1.drew HB2.out
      have HB : Hid _ := HB2.out
      go_region_held3 (fun W => W.cell? ⟨w.heap.size, 0, none⟩ = some (.int .i64 a.k) ∧ W.cell? ⟨w.heap.size, 1, none⟩ = some (.int .i64 a.y) ∧ W.cell? ⟨w.heap.size, 2, none⟩ = some (.int .i64 a.m) ∧ W.cell? ⟨w.heap.size, 3, none⟩ = some (.int .i64 a.d) ∧ W.cell? ⟨w.heap.size, 4, none⟩ = some (.int .i64 a.s) ∧ W.cell? ⟨w.heap.size, 5, none⟩ = some (.int .i64 a.n) ∧ W.cell? ⟨w.heap.size, 6, none⟩ = some (.bool a.hz) ∧ W.cell? ⟨w.heap.size, 7, none⟩ = some (.int .i64 a.z) ∧ W.cell? ⟨w.heap.size + 1, 0, none⟩ = some (.int .i64 b.k) ∧ W.cell? ⟨w.heap.size + 1, 1, none⟩ = some (.int .i64 b.y) ∧ W.cell? ⟨w.heap.size + 1, 2, none⟩ = some (.int .i64 b.m) ∧ W.cell? ⟨w.heap.size + 1, 3, none⟩ = some (.int .i64 b.d) ∧ W.cell? ⟨w.heap.size + 1, 4, none⟩ = some (.int .i64 b.s) ∧ W.cell? ⟨w.heap.size + 1, 5, none⟩ = some (.int .i64 b.n) ∧ W.cell? ⟨w.heap.size + 1, 6, none⟩ = some (.bool b.hz) ∧ W.cell? ⟨w.heap.size + 1, 7, none⟩ = some (.int .i64 b.z)) (first | exact ⟨g0, g1, g2, g3, g4, g5, g6, g7, h0, h1, h2, h3, h4, h5, h6, h7⟩ | fail) (first
      | (go_at_call 89; (with_reducible refine Calls.mono (HC.out.2.2.2.2.1 _) ?_); rintro e w1 ⟨rfl, hb1⟩; have hbb := HB.out.trans (hb1.mono HB.out.size); clear HB g0 g1 g2 g3 g4 g5 g6 g7 h0 h1 h2 h3 h4 h5 h6 h7; obtain ⟨g0, g1, g2, g3, g4, g5, g6, g7, h0, h1, h2, h3, h4, h5, h6, h7⟩ := HKP.out _ hbb; have HB : Hid _ := hbb; clear hbb hb1)
      | (go_at_call 89; (with_reducible refine Calls.mono (HC.out.2.2.2.2.2.1 _) ?_); rintro e w1 ⟨rfl, hb1⟩; have hbb := HB.out.trans (hb1.mono HB.out.size); clear HB g0 g1 g2 g3 g4 g5 g6 g7 h0 h1 h2 h3 h4 h5 h6 h7; obtain ⟨g0, g1, g2, g3, g4, g5, g6, g7, h0, h1, h2, h3, h4, h5, h6, h7⟩ := HKP.out _ hbb; have HB : Hid _ := hbb; clear hbb hb1)
      | (go_at_call 88; (with_reducible refine Calls.mono (HC.out.2.2.2.2.2.2.1 _) ?_); rintro e w1 ⟨rfl, hb1⟩; have hbb := HB.out.trans (hb1.mono HB.out.size); clear HB g0 g1 g2 g3 g4 g5 g6 g7 h0 h1 h2 h3 h4 h5 h6 h7; obtain ⟨g0, g1, g2, g3, g4, g5, g6, g7, h0, h1, h2, h3, h4, h5, h6, h7⟩ := HKP.out _ hbb; have HB : Hid _ := hbb; clear hbb hb1)
      | fail)
      cases hq : (R1 != R2)
      · go_wp2_with fail
        go_ret
        exact ⟨ret_int (by rw [HR.out, if_neg (by simpa using hq)]), HC.out.2.2.2.2.2.2.2.trans (HB.out.mono HC.out.2.2.2.2.2.2.2.size)⟩
      · go_wp2_with fail
        go_ret
        exact ⟨ret_int (by rw [HR.out, if_pos (by simpa using hq)]), HC.out.2.2.2.2.2.2.2.trans (HB.out.mono HC.out.2.2.2.2.2.2.2.size)⟩
  · obtain rfl := HE.out.2.2 hk
    have hkk : (a.k == b.k) = false := by simpa using hk
    have hkn : (a.k != b.k) = true := by simpa using hk
    clear hk HE
    go_enter Tryz.func49, Tryz.ntmps49
    go_wp2_with fail
    go_ret
    refine ⟨rfl, ?_⟩
    rw [HU.out]
    exact HC.out.2.2.2.2.2.2.2
end Go.Proofs.YtgaegajcejpmdaaGreatDoor.Dt
namespace Go.Proofs.YtgaegajcejpmdaaGreatDoor.Dt
open Go.RowKit
set_option linter.unusedVariables false

structure SpT (p : Sp) : Prop where
  o0 : -20000000000 < p.o
  o1 : p.o < 20000000000
  s0 : -1000000000000000 < p.s
  s1 : p.s < 1000000000000000
  n0 : -10000000000 < p.n
  n1 : p.n < 10000000000
theorem SpT.b {p : Sp} (h : SpT p) : SpB p := by
  obtain ⟨o0, o1, s0, s1, n0, n1⟩ := h
  exact ⟨by omega, by omega, by omega, by omega, by omega, by omega⟩
theorem MoOk.b {a : Mo} (h : MoOk a) (y0 : -3000000000 < a.y) (y1 : a.y < 3000000000) : MoB a := by
  obtain ⟨hy, m0, m1, d0, d1, s0, s1, n0, n1⟩ := h
  have := (len_in (l := lnY a.y) m0 m1).2
  exact ⟨by omega, by omega, by omega, by omega, by omega, by omega, by omega, by omega, by omega, by omega⟩
theorem civL_in {n : Int} (h0 : -2000000000000 < n) (h1 : n < 2000000000000) : -6000000000 < civL n ∧ civL n < 6000000000 := by
  obtain ⟨a, b⟩ := (civ_is n).within
  have hb : ahd 2000 = 730485 := by decide
  rw [hb] at a b
  generalize civL n = l at *
  unfold ahd at a b
  omega
theorem add_in {a : Mo} {p : Sp} (ha : MoOk a) (y0 : -3000000000 < a.y) (y1 : a.y < 3000000000) (hp : SpT p) : -7000000000 < (addM a p).y ∧ (addM a p).y < 7000000000 := by
  obtain ⟨hy, m0, m1, d0, d1, s0, s1, n0, n1⟩ := ha
  obtain ⟨o0, o1, ps0, ps1, pn0, pn1⟩ := hp
  have hl : -4900000000 < addL a p ∧ addL a p < 4900000000 := by
    have : -3000000000 < lnY a.y ∧ lnY a.y < 3000000001 := by unfold lnY; split <;> omega
    unfold addL
    omega
  have hO : 1 ≤ addO a p ∧ addO a p ≤ 12 := by unfold addO; omega
  have hC : -100 < addC a p ∧ addC a p < 100 := by
    have := len_in (l := addL a p) hO.1 hO.2
    have := len_in (l := lnY a.y) m0 m1
    unfold addC
    split <;> omega
  have hT : -20000000000 < addT a p / 86400 ∧ addT a p / 86400 < 20000000000 := by unfold addT; omega
  have hN : -1950000000000 < addN a p ∧ addN a p < 1950000000000 := by
    unfold addN daysS dayN
    rw [ln_bk, show (addO a p - 1) / 12 = 0 by omega, Int.add_zero, Nat.add_sub_cancel]
    have := cum_nonneg (addL a p) ((addO a p - 1) % 12).toNat
    have := cum_le (addL a p) (show ((addO a p - 1) % 12).toNat ≤ 12 by omega)
    have ha : -1900000000000 < ahd (addL a p) ∧ ahd (addL a p) < 1900000000000 := by unfold ahd; omega
    have hb : ahd 2000 = 730485 := by decide
    omega
  have hc := civL_in (n := addN a p) (by omega) (by omega)
  unfold addM bkY
  dsimp only
  split <;> omega
theorem add_L {a : Mo} {p : Sp} (ha : MoOk a) (y0 : -3000000000 < a.y) (y1 : a.y < 3000000000) (z0 : -1000000 < a.z) (z1 : a.z < 1000000) (hp : SpT p) : MoL (addM a p) := by
  obtain ⟨hy0, hy1⟩ := add_in ha y0 y1 hp
  obtain ⟨hy, m0, m1, d0, d1, s0, s1, n0, n1⟩ := MoOk.add a p
  have := (len_in (l := lnY (addM a p).y) m0 m1).2
  exact ⟨⟨by omega, by omega, by omega, by omega, by omega, by omega, by omega, by omega, by omega, by omega⟩, n0, n1, z0, z1⟩
theorem ref_ok {y m : Int} (hy : y ≠ 0) (m0 : 1 ≤ m) (m1 : m ≤ 12) : MoOk (refM y m) := by
  have := (len_in (l := lnY y) m0 m1).1
  exact ⟨hy, m0, m1, by simp [refM], by simp only [refM]; omega, by simp [refM], by simp [refM], by simp [refM], by simp [refM]⟩
abbrev spC (p : Sp) : Array Value := #[.int .i64 p.o, .int .i64 p.s, .int .i64 p.n]
set_option maxHeartbeats 1000000 in
theorem from_c (y m : Int) (a b : Sp) (A B : Nat) (w : World) (hA : w.heap[A]? = some (.cells (spC a) 38 (0, 0))) (hB : w.heap[B]? = some (.cells (spC b) 38 (0, 0))) (hy : y ≠ 0) (y0 : 0 < y) (y1 : y < 10000) (m0 : 1 ≤ m) (m1 : m ≤ 12) (ha : SpT a) (hb : SpT b) :
    Calls Tryz.prog 90 #[.int .i64 y, .int .i64 m, .pointer (some ⟨A, 0, none⟩), .pointer (some ⟨B, 0, none⟩)] w fun e w' => e = .returned (.int .i64 (cmp4 y m a b)) ∧ Below w.heap.size w w' := by
  have hr := ref_ok hy m0 m1
  have q1 := fun W : World => add_p (refM y m) a W (hr.b (by simp only [refM]; omega) (by simp only [refM]; omega)) ha.b
  have q2 := fun W : World => add_p (refM y m) b W (hr.b (by simp only [refM]; omega) (by simp only [refM]; omega)) hb.b
  have q3 := fun W : World => cmp_p (addM (refM y m) a) (addM (refM y m) b) W (add_L hr (by simp only [refM]; omega) (by simp only [refM]; omega) (by simp [refM]) (by simp [refM]) ha) (add_L hr (by simp only [refM]; omega) (by simp only [refM]; omega) (by simp [refM]) (by simp [refM]) hb)
  unfold cmp4
  have e0 : moV (refM y m) = .agg #[.int .i64 1, .int .i64 y, .int .i64 m, .int .i64 1, .int .i64 0, .int .i64 0, .bool false, .int .i64 0] := rfl
  rw [e0] at q1 q2
  clear e0
  generalize addM (refM y m) a = r1 at *
  generalize addM (refM y m) b = r2 at *
  have hz : Below w.heap.size w (w.alloc (.cells #[.int .i64 1, .int .i64 y, .int .i64 m, .int .i64 1, .int .i64 0, .int .i64 0, .bool false, .int .i64 0] 36)) := (Below.refl _ _).alloc (Nat.le_refl _) _
  have x1 := nw_heap w (.cells #[.int .i64 1, .int .i64 y, .int .i64 m, .int .i64 1, .int .i64 0, .int .i64 0, .bool false, .int .i64 0] 36)
  have HC : Hid _ := And.intro q1 (And.intro q2 (And.intro q3 hz))
  clear q1 q2 q3 hr ha hb
  go_enter Tryz.func90, Tryz.ntmps90
  go_wp2_with fail
  have hA2 := (hz.block _ (lt_of hA)).trans hA
  have hB2 := (hz.block _ (lt_of hB)).trans hB
  clear hA hB hz
  generalize hU : (w.alloc (.cells #[.int .i64 1, .int .i64 y, .int .i64 m, .int .i64 1, .int .i64 0, .int .i64 0, .bool false, .int .i64 0] 36)) = U at *
  clear hU
  have hkp : ∀ W, Below U.heap.size U W → (W.cell? ⟨w.heap.size, 0, none⟩ = some (.int .i64 1) ∧ W.cell? ⟨w.heap.size, 1, none⟩ = some (.int .i64 y) ∧ W.cell? ⟨w.heap.size, 2, none⟩ = some (.int .i64 m) ∧ W.cell? ⟨w.heap.size, 3, none⟩ = some (.int .i64 1) ∧ W.cell? ⟨w.heap.size, 4, none⟩ = some (.int .i64 0) ∧ W.cell? ⟨w.heap.size, 5, none⟩ = some (.int .i64 0) ∧ W.cell? ⟨w.heap.size, 6, none⟩ = some (.bool false) ∧ W.cell? ⟨w.heap.size, 7, none⟩ = some (.int .i64 0) ∧ W.cell? ⟨A, 0, none⟩ = some (.int .i64 a.o) ∧ W.cell? ⟨A, 1, none⟩ = some (.int .i64 a.s) ∧ W.cell? ⟨A, 2, none⟩ = some (.int .i64 a.n) ∧ W.cell? ⟨B, 0, none⟩ = some (.int .i64 b.o) ∧ W.cell? ⟨B, 1, none⟩ = some (.int .i64 b.s) ∧ W.cell? ⟨B, 2, none⟩ = some (.int .i64 b.n)) := fun W hW => by
    obtain ⟨⟨g0, g1, g2, g3, g4, g5, g6, g7⟩, _⟩ := blk8 ((hW.block _ (lt_of x1)).trans x1)
    obtain ⟨h0, h1, h2⟩ := blk3 ((hW.block _ (lt_of hA2)).trans hA2)
    obtain ⟨j0, j1, j2⟩ := blk3 ((hW.block _ (lt_of hB2)).trans hB2)
    exact ⟨g0, g1, g2, g3, g4, g5, g6, g7, h0, h1, h2, j0, j1, j2⟩
  obtain ⟨g0, g1, g2, g3, g4, g5, g6, g7, h0, h1, h2, j0, j1, j2⟩ := hkp U.drew (below_drewN 1)
  have HB : Hid (Below U.heap.size U U.drew) := below_drewN 1
  have HKP : Hid _ := hkp
  clear hkp x1 hA2 hB2
  go_region_held3 (fun W => W.cell? ⟨w.heap.size, 0, none⟩ = some (.int .i64 1) ∧ W.cell? ⟨w.heap.size, 1, none⟩ = some (.int .i64 y) ∧ W.cell? ⟨w.heap.size, 2, none⟩ = some (.int .i64 m) ∧ W.cell? ⟨w.heap.size, 3, none⟩ = some (.int .i64 1) ∧ W.cell? ⟨w.heap.size, 4, none⟩ = some (.int .i64 0) ∧ W.cell? ⟨w.heap.size, 5, none⟩ = some (.int .i64 0) ∧ W.cell? ⟨w.heap.size, 6, none⟩ = some (.bool false) ∧ W.cell? ⟨w.heap.size, 7, none⟩ = some (.int .i64 0) ∧ W.cell? ⟨A, 0, none⟩ = some (.int .i64 a.o) ∧ W.cell? ⟨A, 1, none⟩ = some (.int .i64 a.s) ∧ W.cell? ⟨A, 2, none⟩ = some (.int .i64 a.n) ∧ W.cell? ⟨B, 0, none⟩ = some (.int .i64 b.o) ∧ W.cell? ⟨B, 1, none⟩ = some (.int .i64 b.s) ∧ W.cell? ⟨B, 2, none⟩ = some (.int .i64 b.n)) (first | exact ⟨g0, g1, g2, g3, g4, g5, g6, g7, h0, h1, h2, j0, j1, j2⟩ | fail) (first
    | (go_at_call 91; (with_reducible refine Calls.mono (HC.out.1 _) ?_); rintro e w1 ⟨rfl, hb1⟩; have hbb := HB.out.trans (hb1.mono HB.out.size); clear HB g0 g1 g2 g3 g4 g5 g6 g7 h0 h1 h2 j0 j1 j2; obtain ⟨g0, g1, g2, g3, g4, g5, g6, g7, h0, h1, h2, j0, j1, j2⟩ := HKP.out _ hbb; have HB : Hid _ := hbb; clear hbb hb1)
    | (go_at_call 91; (with_reducible refine Calls.mono (HC.out.2.1 _) ?_); rintro e w1 ⟨rfl, hb1⟩; have hbb := HB.out.trans (hb1.mono HB.out.size); clear HB g0 g1 g2 g3 g4 g5 g6 g7 h0 h1 h2 j0 j1 j2; obtain ⟨g0, g1, g2, g3, g4, g5, g6, g7, h0, h1, h2, j0, j1, j2⟩ := HKP.out _ hbb; have HB : Hid _ := hbb; clear hbb hb1)
    | (go_at_call 49; (with_reducible refine Calls.mono (HC.out.2.2.1 _) ?_); rintro e w1 ⟨rfl, hb1⟩; have hbb := HB.out.trans (hb1.mono HB.out.size); clear HB g0 g1 g2 g3 g4 g5 g6 g7 h0 h1 h2 j0 j1 j2; obtain ⟨g0, g1, g2, g3, g4, g5, g6, g7, h0, h1, h2, j0, j1, j2⟩ := HKP.out _ hbb; have HB : Hid _ := hbb; clear hbb hb1)
    | fail)
  all_goals
    go_wp2_with fail
    go_ret
    exact ⟨rfl, HC.out.2.2.2.trans (HB.out.mono HC.out.2.2.2.size)⟩
set_option maxHeartbeats 1000000 in
theorem cmpSpan_p (a b : Sp) (w : World) (ha : SpT a) (hb : SpT b) : Calls Tryz.prog 50 #[spV a, spV b] w fun e w' => e = .returned (.int .i64 (cmpP a b)) ∧ Below w.heap.size w w' := by
  obtain ⟨x1, x2, hb0⟩ := box2 w (.cells (spC a) 38) (.cells (spC b) 38)
  have q1 := fun (W : World) (hW : Below ((w.alloc (.cells (spC a) 38)).alloc (.cells (spC b) 38)).heap.size ((w.alloc (.cells (spC a) 38)).alloc (.cells (spC b) 38)) W) => from_c 1696 9 a b w.heap.size (w.heap.size + 1) W ((hW.block _ (lt_of x1)).trans x1) ((hW.block _ (lt_of x2)).trans x2) (by omega) (by omega) (by omega) (by omega) (by omega) ha hb
  have q2 := fun (W : World) (hW : Below ((w.alloc (.cells (spC a) 38)).alloc (.cells (spC b) 38)).heap.size ((w.alloc (.cells (spC a) 38)).alloc (.cells (spC b) 38)) W) => from_c 1697 2 a b w.heap.size (w.heap.size + 1) W ((hW.block _ (lt_of x1)).trans x1) ((hW.block _ (lt_of x2)).trans x2) (by omega) (by omega) (by omega) (by omega) (by omega) ha hb
  have q3 := fun (W : World) (hW : Below ((w.alloc (.cells (spC a) 38)).alloc (.cells (spC b) 38)).heap.size ((w.alloc (.cells (spC a) 38)).alloc (.cells (spC b) 38)) W) => from_c 1903 3 a b w.heap.size (w.heap.size + 1) W ((hW.block _ (lt_of x1)).trans x1) ((hW.block _ (lt_of x2)).trans x2) (by omega) (by omega) (by omega) (by omega) (by omega) ha hb
  have q4 := fun (W : World) (hW : Below ((w.alloc (.cells (spC a) 38)).alloc (.cells (spC b) 38)).heap.size ((w.alloc (.cells (spC a) 38)).alloc (.cells (spC b) 38)) W) => from_c 1903 7 a b w.heap.size (w.heap.size + 1) W ((hW.block _ (lt_of x1)).trans x1) ((hW.block _ (lt_of x2)).trans x2) (by omega) (by omega) (by omega) (by omega) (by omega) ha hb
  have hE : cmpP a b = if cmp4 1696 9 a b = cmp4 1903 7 a b ∧ cmp4 1697 2 a b = cmp4 1903 7 a b ∧ cmp4 1903 3 a b = cmp4 1903 7 a b then cmp4 1903 7 a b else 2 := rfl
  rw [hE]
  clear hE
  generalize cmp4 1696 9 a b = R1 at *
  generalize cmp4 1697 2 a b = R2 at *
  generalize cmp4 1903 3 a b = R3 at *
  generalize cmp4 1903 7 a b = R4 at *
  obtain ⟨R, hR⟩ : ∃ R, (if R1 = R4 ∧ R2 = R4 ∧ R3 = R4 then R4 else 2) = R := ⟨_, rfl⟩
  rw [hR]
  have HR : Hid _ := hR
  clear hR
  have HC : Hid _ := And.intro q1 (And.intro q2 (And.intro q3 (And.intro q4 hb0)))
  clear q1 q2 q3 q4 ha hb x1 x2 hb0
  have HB : Hid (Below ((w.alloc (.cells (spC a) 38)).alloc (.cells (spC b) 38)).heap.size ((w.alloc (.cells (spC a) 38)).alloc (.cells (spC b) 38)) ((w.alloc (.cells (spC a) 38)).alloc (.cells (spC b) 38))) := Below.refl _ _
  go_enter Tryz.func50, Tryz.ntmps50
  go_wp2_with fail
  refine Calls.mono (HC.out.1 _ HB.out) ?_
  rintro e w1 ⟨rfl, hb1⟩
  have hbb := HB.out.trans (hb1.mono HB.out.size)
  clear HB
  have HB : Hid _ := hbb
  clear hbb hb1
  cases hq1 : (R2 != R1)
  · cases hq2 : (R3 != R1)
    · cases hq3 : (R4 != R1)
      · go_wp2_with fail
        refine Calls.mono (HC.out.2.1 _ HB.out) ?_
        rintro e w1 ⟨rfl, hb1⟩
        have hbb := HB.out.trans (hb1.mono HB.out.size)
        clear HB
        have HB : Hid _ := hbb
        clear hbb hb1
        go_wp2_with fail
        refine Calls.mono (HC.out.2.2.1 _ HB.out) ?_
        rintro e w1 ⟨rfl, hb1⟩
        have hbb := HB.out.trans (hb1.mono HB.out.size)
        clear HB
        have HB : Hid _ := hbb
        clear hbb hb1
        go_wp2_with fail
        refine Calls.mono (HC.out.2.2.2.1 _ HB.out) ?_
        rintro e w1 ⟨rfl, hb1⟩
        have hbb := HB.out.trans (hb1.mono HB.out.size)
        clear HB
        have HB : Hid _ := hbb
        clear hbb hb1
        go_wp2_with fail
        go_ret
        exact ⟨ret_int (by simp at hq1 hq2 hq3; rw [← HR.out, if_pos (by omega)]; omega), HC.out.2.2.2.2.trans (HB.out.mono HC.out.2.2.2.2.size)⟩
      · go_wp2_with fail
        refine Calls.mono (HC.out.2.1 _ HB.out) ?_
        rintro e w1 ⟨rfl, hb1⟩
        have hbb := HB.out.trans (hb1.mono HB.out.size)
        clear HB
        have HB : Hid _ := hbb
        clear hbb hb1
        go_wp2_with fail
        refine Calls.mono (HC.out.2.2.1 _ HB.out) ?_
        rintro e w1 ⟨rfl, hb1⟩
        have hbb := HB.out.trans (hb1.mono HB.out.size)
        clear HB
        have HB : Hid _ := hbb
        clear hbb hb1
        go_wp2_with fail
        refine Calls.mono (HC.out.2.2.2.1 _ HB.out) ?_
        rintro e w1 ⟨rfl, hb1⟩
        have hbb := HB.out.trans (hb1.mono HB.out.size)
        clear HB
        have HB : Hid _ := hbb
        clear hbb hb1
        go_wp2_with fail
        go_ret
        exact ⟨ret_int (by simp at hq1 hq2 hq3; rw [← HR.out, if_neg (by omega)]), HC.out.2.2.2.2.trans (HB.out.mono HC.out.2.2.2.2.size)⟩
    · go_wp2_with fail
      refine Calls.mono (HC.out.2.1 _ HB.out) ?_
      rintro e w1 ⟨rfl, hb1⟩
      have hbb := HB.out.trans (hb1.mono HB.out.size)
      clear HB
      have HB : Hid _ := hbb
      clear hbb hb1
      go_wp2_with fail
      refine Calls.mono (HC.out.2.2.1 _ HB.out) ?_
      rintro e w1 ⟨rfl, hb1⟩
      have hbb := HB.out.trans (hb1.mono HB.out.size)
      clear HB
      have HB : Hid _ := hbb
      clear hbb hb1
      go_wp2_with fail
      go_ret
      exact ⟨ret_int (by simp at hq1 hq2; rw [← HR.out, if_neg (by omega)]), HC.out.2.2.2.2.trans (HB.out.mono HC.out.2.2.2.2.size)⟩
  · go_wp2_with fail
    refine Calls.mono (HC.out.2.1 _ HB.out) ?_
    rintro e w1 ⟨rfl, hb1⟩
    have hbb := HB.out.trans (hb1.mono HB.out.size)
    clear HB
    have HB : Hid _ := hbb
    clear hbb hb1
    go_wp2_with fail
    go_ret
    exact ⟨ret_int (by simp at hq1; rw [← HR.out, if_neg (by omega)]), HC.out.2.2.2.2.trans (HB.out.mono HC.out.2.2.2.2.size)⟩
end Go.Proofs.YtgaegajcejpmdaaGreatDoor.Dt
