/- Joined: HDcD5, HDcL0. -/
import Derived.Test.YtgaegajcejpmdaaGreatDoorHDcD4
import Derived.Lib.Bytealg
import Derived.Test.YtgaegajcejpmdaaGreatDoorHDcB0
namespace Go.Proofs.YtgaegajcejpmdaaGreatDoor.Dc
open Go.RowKit
set_option linter.unusedVariables false

theorem ret_int {k : IntKind} {a b : Int} (h : a = b) : Ending.returned (.int k a) = .returned (.int k b) := by rw [h]
theorem ret_bool {a b : Bool} (h : a = b) : Ending.returned (.bool a) = .returned (.bool b) := by rw [h]
/-- Where the first point stands; -1: nowhere. -/
def ix : List Int → Int
  | [] => -1
  | b :: l => if b = 46 then 0 else if ix l = -1 then -1 else ix l + 1
theorem ix_lib (l : List UInt8) : Lib.indexByte l 46 = ix (l.map fun c => (c.toNat : Int)) := by
  induction l with
  | nil => rfl
  | cons b l ih =>
    simp only [Lib.indexByte, List.map_cons, ix, ih]
    have e : (b == 46) = decide ((b.toNat : Int) = 46) := by
      rw [Bool.eq_iff_iff]; simp
      constructor
      · rintro rfl; rfl
      · intro h; exact UInt8.toNat_inj.1 (by simpa using (by omega : b.toNat = 46))
    rw [e]
    simp
theorem ix_bd (l : List Int) : ix l = -1 ∨ (0 ≤ ix l ∧ ix l < l.length) := by
  induction l with
  | nil => simp [ix]
  | cons b l ih =>
    have : ((b :: l).length : Int) = l.length + 1 := by simp
    rw [this]
    simp only [ix]
    by_cases h1 : b = 46
    · rw [if_pos h1]; omega
    · rw [if_neg h1]
      by_cases h2 : ix l = -1
      · rw [if_pos h2]; omega
      · rw [if_neg h2]; omega
theorem ct_ix : ∀ (l : List Int), (ix l = -1 → ctS l = (l, [])) ∧ (∀ k : Nat, ix l = k → ctS l = (l.take k, l.drop (k + 1)))
  | [] => ⟨fun _ => rfl, fun k h => by simp [ix] at h⟩
  | c :: l => by
    have ih := ct_ix l
    rw [ix, ctS]
    by_cases h1 : c = 46
    · rw [if_pos h1, if_pos h1]
      refine ⟨fun h => by omega, fun k h => ?_⟩
      have : k = 0 := by omega
      rw [this]; simp
    · rw [if_neg h1, if_neg h1]
      by_cases h2 : ix l = -1
      · rw [if_pos h2, ih.1 h2]
        exact ⟨fun _ => rfl, fun k h => by omega⟩
      · rw [if_neg h2]
        refine ⟨fun h => by have := ix_bd l; omega, fun k h => ?_⟩
        obtain ⟨j, rfl⟩ : ∃ j, k = j + 1 := ⟨k - 1, by have := ix_bd l; omega⟩
        rw [ih.2 j (by omega)]
        simp
theorem bl_pre (s : ByteArray) (k : Nat) (h : k ≤ s.size) : bl (s.extract 0 k) = (bl s).take k := by
  unfold bl
  rw [ByteArray.data_extract, Array.toList_extract, List.extract_eq_take_drop, ← List.map_take]
  simp
theorem bl_suf (s : ByteArray) (k : Nat) : bl (s.extract k s.size) = (bl s).drop k := by
  unfold bl
  rw [ByteArray.data_extract, Array.toList_extract, List.extract_eq_take_drop, List.map_drop.symm]
  congr 1
  rw [List.take_of_length_le]
  rw [List.length_drop]
  exact Nat.le_refl _
theorem point_run (s : ByteArray) (c : Int) (w : World) : (callFunc 215 #[.string s, .int .u8 c]).run Tryz.prog w = .ok (.value (.int .i64 (Lib.indexByte s.data.toList c.toNat.toUInt8))) w := by
  rw [run_callFunc_extern Tryz.func215 (by kernel_rfl) (by kernel_rfl) (by kernel_rfl) (e := Extern.BytealgIndexByte.indexByte) (by kernel_rfl), Lib.run_indexByteString]
  rfl
set_option maxHeartbeats 400000 in
theorem index_any (s : ByteArray) (w : World) :
    Calls Tryz.prog 176 #[.string s, .string ⟨#[46]⟩] w fun e w' => e = .returned (.int .i64 (ix (bl s))) ∧ w' = w := by
  have hr := point_run s
  go_enter Tryz.func176, Tryz.ntmps176
  go_wp2
  · go_ret
    refine ⟨ret_int ?_, rfl⟩
    have h : s.toList = [46] := (beq_iff_eq.1 ‹_›).symm
    have : bl s = [46] := by unfold bl; rw [← Lib.toList_data, h]; rfl
    rw [this]; rfl
  · go_ret
    refine ⟨ret_int ?_, rfl⟩
    exact ix_lib s.data.toList
set_option maxHeartbeats 400000 in
theorem lcut_no (s : ByteArray) (w : World) (h : ix (bl s) = -1) :
    Calls Tryz.prog 148 #[.string s, .string ⟨#[46]⟩] w fun e w' => e = .returned (.tuple #[.string s, .string ⟨#[]⟩, .bool false]) ∧ w' = w := by
  go_enter Tryz.func148, Tryz.ntmps148
  go_wp2_with (go_at_call 176; refine (index_any _ _).mono ?_; rintro e w' ⟨rfl, rfl⟩)
  go_ret3
  exact ⟨rfl, rfl⟩
set_option maxHeartbeats 400000 in
theorem cut_no (s : ByteArray) (w : World) (h : ix (bl s) = -1) :
    Calls Tryz.prog 105 #[.string s, .string ⟨#[46]⟩] w fun e w' => e = .returned (.tuple #[.string s, .string ⟨#[]⟩, .bool false]) ∧ w' = w := by
  go_enter Tryz.func105, Tryz.ntmps105
  go_wp2_with (go_at_call 148; refine (lcut_no _ _ h).mono ?_; rintro e w' ⟨rfl, rfl⟩)
  go_ret3
  exact ⟨rfl, rfl⟩
set_option maxHeartbeats 400000 in
theorem lcut_yes (s : ByteArray) (k : Nat) (w : World) (hs : s.size ≤ maxLen) (h : ix (bl s) = (k : Int)) :
    Calls Tryz.prog 148 #[.string s, .string ⟨#[46]⟩] w fun e w' => e = .returned (.tuple #[.string (s.extract 0 k), .string (s.extract (k + 1) s.size), .bool true]) ∧ Below w.heap.size w w' := by
  have hk : k < s.size := by
    have := ix_bd (bl s)
    rw [h, bl_len] at this
    omega
  unfold maxLen at hs
  go_enter Tryz.func148, Tryz.ntmps148
  go_wp2_with (go_at_call 176; refine (index_any _ _).mono ?_; rintro e w' ⟨rfl, rfl⟩)
  go_region
  all_goals
    go_wp2
    go_ret3
    exact ⟨rfl, (Below.refl _ _).drew⟩
set_option maxHeartbeats 400000 in
theorem cut_yes (s : ByteArray) (k : Nat) (w : World) (hs : s.size ≤ maxLen) (h : ix (bl s) = (k : Int)) :
    Calls Tryz.prog 105 #[.string s, .string ⟨#[46]⟩] w fun e w' => e = .returned (.tuple #[.string (s.extract 0 k), .string (s.extract (k + 1) s.size), .bool true]) ∧ Below w.heap.size w w' := by
  go_enter Tryz.func105, Tryz.ntmps105
  go_wp2_with (go_at_call 148; refine (lcut_yes _ _ _ hs h).mono ?_; rintro e w' ⟨rfl, hb⟩)
  go_ret3
  exact ⟨rfl, hb⟩
theorem ext_sz (s : ByteArray) (i j : Nat) : (s.extract i j).size ≤ s.size := by
  rw [ByteArray.size_extract]; omega
/-- Cut, both ways. -/
theorem cut_p (s : ByteArray) (w : World) (hs : s.size ≤ maxLen) :
    Calls Tryz.prog 105 #[.string s, .string ⟨#[46]⟩] w fun e w' => ∃ (x y : ByteArray) (b : Bool), e = .returned (.tuple #[.string x, .string y, .bool b]) ∧ (bl x, bl y) = ctS (bl s) ∧ x.size + y.size ≤ s.size ∧ Below w.heap.size w w' := by
  rcases ix_bd (bl s) with h | ⟨h0, h1⟩
  · refine Calls.mono (cut_no s w h) ?_
    rintro e w' ⟨rfl, rfl⟩
    exact ⟨_, _, _, rfl, ((ct_ix (bl s)).1 h).symm, Nat.le_refl _, Below.refl _ _⟩
  · obtain ⟨k, hk⟩ := Int.eq_ofNat_of_zero_le h0
    rw [bl_len] at h1
    refine Calls.mono (cut_yes s k w hs hk) ?_
    rintro e w' ⟨rfl, hb⟩
    refine ⟨_, _, _, rfl, ?_, ?_, hb⟩
    · rw [bl_pre s k (by omega), bl_suf]
      exact ((ct_ix (bl s)).2 k hk).symm
    · rw [ByteArray.size_extract, ByteArray.size_extract]; omega
theorem ext_one (s : ByteArray) (h : 0 < s.size) : (s.extract 0 1).toList = [s[0]'h] := by
  rw [Lib.toList_data, ByteArray.data_extract, Array.toList_extract, List.extract_eq_take_drop]
  rw [List.drop_zero]
  have h' : 0 < s.data.toList.length := by rw [Array.length_toList]; exact h
  rw [List.take_succ_eq_append_getElem h']
  simp
  rfl
theorem pre_aux (s : ByteArray) (h : 0 < s.size) (c : UInt8) : ((s.extract 0 1).toList == [c]) = decide ((bl s).head? = some (c.toNat : Int)) := by
  rw [ext_one s h, bl_cons s h, Bool.eq_iff_iff]
  simp
  constructor
  · rintro rfl; rfl
  · intro q; exact UInt8.toNat_inj.1 (by omega)
set_option maxHeartbeats 400000 in
theorem pre_p (s : ByteArray) (c : UInt8) (w : World) (hs : s.size ≤ maxLen) :
    Calls Tryz.prog 104 #[.string s, .string ⟨#[c]⟩] w fun e w' => e = .returned (.bool (decide ((bl s).head? = some (c.toNat : Int)))) ∧ w' = w := by
  unfold maxLen at hs
  by_cases h : 0 < s.size
  · have ha := pre_aux s h c
    generalize (decide ((bl s).head? = some (c.toNat : Int))) = B at *
    have h1 : (1 : Int) ≤ s.size := by omega
    go_enter Tryz.func104, Tryz.ntmps104
    go_wp2
    go_ret
    exact ⟨by rw [← ha]; rfl, rfl⟩
  · have hb : bl s = [] := bl_nil (by omega)
    have hB : (decide ((bl s).head? = some (c.toNat : Int))) = false := by rw [hb]; simp
    have h1 : ¬ (1 : Int) ≤ s.size := by omega
    rw [hB]
    go_enter Tryz.func104, Tryz.ntmps104
    go_wp2
    go_ret
    exact ⟨rfl, rfl⟩
end Go.Proofs.YtgaegajcejpmdaaGreatDoor.Dc
namespace Go.Proofs.YtgaegajcejpmdaaGreatDoor.Dc
open Go.RowKit
set_option linter.unusedVariables false

/-- What the program's Parse gives. -/
def PrP (l : List Int) (w : World) (e : Ending) (w' : World) : Prop :=
  Below w.heap.size w w' ∧ match parS l with
  | .error x => ∃ v0, e = .returned (.tuple #[nmV false v0 0, .int .i64 x]) ∧ BtR w' v0 []
  | .ok n => ∃ rv, e = .returned (.tuple #[nmV n.1 rv n.2.2, .int .i64 0]) ∧ BtR w' rv n.2.1
/-- What the program's Add gives. -/
def ArP (a b : Nm) (w : World) (e : Ending) (w' : World) : Prop :=
  Below w.heap.size w w' ∧ match adS a b with
  | .error x => ∃ v0, e = .returned (.tuple #[nmV false v0 0, .int .i64 x]) ∧ BtR w' v0 []
  | .ok n => ∃ rv, e = .returned (.tuple #[nmV n.1 rv n.2.2, .int .i64 0]) ∧ BtR w' rv n.2.1
/-- A number's box stands. -/
theorem boxK {w : World} {T : Nat} {x y z : Value} {t : TypeId} (h : w.heap[T]? = some (.cells #[x, y, z] t (0, 0))) : ∀ W, Below w.heap.size w W → W.cell? ⟨T, 0, none⟩ = some x ∧ W.cell? ⟨T, 1, none⟩ = some y ∧ W.cell? ⟨T, 2, none⟩ = some z := fun W hb => bl3 ((hb.block _ (lt_of h)).trans h)
def kA : List Int := [45, 48, 48, 55, 46, 53, 48]
def kB : List Int := [43, 46, 53]
theorem parA : parS kA = .ok (true, [7, 5], 1) := by rfl
theorem parB : parS kB = .ok (false, [0, 5], 1) := by rfl
theorem cnA : CN (true, [7, 5], 1) := (par_ok parA).1
theorem cnB : CN (false, [0, 5], 1) := (par_ok parB).1
theorem smAB : smS (true, [7, 5], 1) (false, [0, 5], 1) = (true, [7], 0) := by rfl
theorem adAB : adS (true, [7, 5], 1) (false, [0, 5], 1) = .ok (true, [7], 0) := by rfl
theorem cnC : CN (true, [7], 0) := by have := (sm_ok cnA cnB).1; rwa [smAB] at this
theorem txA : sb (txS (true, [7, 5], 1)) = ⟨#[45, 55, 46, 53]⟩ := by rfl
theorem txB : sb (txS (false, [0, 5], 1)) = ⟨#[48, 46, 53]⟩ := by rfl
theorem txC : sb (txS (true, [7], 0)) = ⟨#[45, 55]⟩ := by rfl
theorem cmAB : cmpS (true, [7, 5], 1) (false, [0, 5], 1) = -1 := by rfl
theorem toB : totS [0, 5] 1 = 1 := by rfl
theorem ngA : ngS (true, [7, 5], 1) = (false, [7, 5], 1) := by rfl
theorem txN : sb (txS (false, [7, 5], 1)) = ⟨#[55, 46, 53]⟩ := by rfl
theorem cnN : CN (false, [7, 5], 1) := by have := (ng_ok cnA).1; rwa [ngA] at this
end Go.Proofs.YtgaegajcejpmdaaGreatDoor.Dc
