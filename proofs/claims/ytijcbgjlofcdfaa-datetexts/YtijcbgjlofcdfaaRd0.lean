/- Texts as rows; the library's CutPrefix, Cut; the program's digits. -/
import Derived.Test.YtijcbgjlofcdfaaJ1
import Derived.Test.YtijcbgjlofcdfaaTxt1
namespace Go.Proofs.Ytijcbgjlofcdfaa
open Go.RowKit
set_option linter.unusedVariables false

/-- A text's bytes, as numbers. -/
def bl (s : ByteArray) : List Int := s.data.toList.map fun c => (c.toNat : Int)
theorem bl_len (s : ByteArray) : (bl s).length = s.size := by simp [bl]
theorem bl_drop (s : ByteArray) (i : Nat) (hi : i < s.size) : (bl s).drop i = ((s[i]'hi).toNat : Int) :: (bl s).drop (i + 1) := by
  rw [List.drop_eq_getElem_cons (by rw [bl_len]; exact hi)]
  congr 1
  simp [bl]
  rfl
theorem bl_cons (s : ByteArray) (h : 0 < s.size) : bl s = ((s[0]'h).toNat : Int) :: (bl s).drop 1 := by
  have := bl_drop s 0 h
  simpa using this
theorem bl_ext (s : ByteArray) : bl (s.extract 1 s.size) = (bl s).drop 1 := by
  unfold bl
  rw [ByteArray.data_extract, Array.toList_extract, List.extract_eq_take_drop, List.map_drop.symm]
  congr 1
  rw [List.take_of_length_le]
  rw [List.length_drop]
  exact Nat.le_refl _
theorem bl_nil {s : ByteArray} (h : s.size = 0) : bl s = [] := List.eq_nil_of_length_eq_zero (by rw [bl_len]; exact h)
theorem tl_nn {s : ByteArray} (h : 0 < s.size) : (s.toList == []) = false := by
  have : ¬ s.toList = [] := fun q => by
    rw [Lib.toList_data] at q
    have e : s.data.toList.length = 0 := by rw [q]; rfl
    rw [Array.length_toList] at e
    have e2 : s.size = 0 := e
    omega
  simpa using this
theorem tl_ee {s : ByteArray} (h : s.size = 0) : (s.toList == []) = true := by
  have : s.toList = [] := by rw [Lib.toList_data]; exact List.eq_nil_of_length_eq_zero (by rw [Array.length_toList]; exact h)
  simp [this]
/-- Where the first point stands; -1: nowhere. -/
def ix : List Int → Int
  | [] => -1
  | b :: l => if b = 84 then 0 else if ix l = -1 then -1 else ix l + 1
theorem ix_lib (l : List UInt8) : Lib.indexByte l 84 = ix (l.map fun c => (c.toNat : Int)) := by
  induction l with
  | nil => rfl
  | cons b l ih =>
    simp only [Lib.indexByte, List.map_cons, ix, ih]
    have e : (b == 84) = decide ((b.toNat : Int) = 84) := by
      rw [Bool.eq_iff_iff]; simp
      constructor
      · rintro rfl; rfl
      · intro h; exact UInt8.toNat_inj.1 (by simpa using (by omega : b.toNat = 84))
    rw [e]
    simp
theorem ix_bd (l : List Int) : ix l = -1 ∨ (0 ≤ ix l ∧ ix l < l.length) := by
  induction l with
  | nil => simp [ix]
  | cons b l ih =>
    have : ((b :: l).length : Int) = l.length + 1 := by simp
    rw [this]
    simp only [ix]
    by_cases h1 : b = 84
    · rw [if_pos h1]; omega
    · rw [if_neg h1]
      by_cases h2 : ix l = -1
      · rw [if_pos h2]; omega
      · rw [if_neg h2]; omega
theorem bl_pre (s : ByteArray) (k : Nat) (h : k ≤ s.size) : bl (s.extract 0 k) = (bl s).take k := by
  unfold bl
  rw [ByteArray.data_extract, Array.toList_extract, List.extract_eq_take_drop, ← List.map_take]
  simp
theorem bl_suf (s : ByteArray) (k : Nat) : bl (s.extract k s.size) = (bl s).drop k := by
  unfold bl
  rw [ByteArray.data_extract, Array.toList_extract, List.extract_eq_take_drop, List.map_drop.symm]
  congr 1
  rw [List.take_of_length_le]
  rw [List.length_drop]
  exact Nat.le_refl _
theorem point_run (s : ByteArray) (c : Int) (w : World) : (callFunc 96 #[.string s, .int .u8 c]).run Try.prog w = .ok (.value (.int .i64 (Lib.indexByte s.data.toList c.toNat.toUInt8))) w := by
  rw [run_callFunc_extern Try.func96 (by kernel_rfl) (by kernel_rfl) (by kernel_rfl) (e := Extern.BytealgIndexByte.indexByte) (by kernel_rfl), Lib.run_indexByteString]
  rfl
set_option maxHeartbeats 400000 in
theorem index_any (s : ByteArray) (w : World) :
    Calls Try.prog 89 #[.string s, .string ⟨#[84]⟩] w fun e w' => e = .returned (.int .i64 (ix (bl s))) ∧ w' = w := by
  have hr := point_run s
  go_enter Try.func89, Try.ntmps89
  go_wp2
  · go_ret
    refine ⟨ret_int ?_, rfl⟩
    have h : s.toList = [84] := (beq_iff_eq.1 ‹_›).symm
    have : bl s = [84] := by unfold bl; rw [← Lib.toList_data, h]; rfl
    rw [this]; rfl
  · go_ret
    refine ⟨ret_int ?_, rfl⟩
    exact ix_lib s.data.toList
set_option maxHeartbeats 400000 in
theorem lcut_no (s : ByteArray) (w : World) (h : ix (bl s) = -1) :
    Calls Try.prog 83 #[.string s, .string ⟨#[84]⟩] w fun e w' => e = .returned (.tuple #[.string s, .string ⟨#[]⟩, .bool false]) ∧ w' = w := by
  go_enter Try.func83, Try.ntmps83
  go_wp2_with (go_at_call 89; refine (index_any _ _).mono ?_; rintro e w' ⟨rfl, rfl⟩)
  go_ret3
  exact ⟨rfl, rfl⟩
set_option maxHeartbeats 400000 in
theorem cut_no (s : ByteArray) (w : World) (h : ix (bl s) = -1) :
    Calls Try.prog 68 #[.string s, .string ⟨#[84]⟩] w fun e w' => e = .returned (.tuple #[.string s, .string ⟨#[]⟩, .bool false]) ∧ w' = w := by
  go_enter Try.func68, Try.ntmps68
  go_wp2_with (go_at_call 83; refine (lcut_no _ _ h).mono ?_; rintro e w' ⟨rfl, rfl⟩)
  go_ret3
  exact ⟨rfl, rfl⟩
set_option maxHeartbeats 400000 in
theorem lcut_yes (s : ByteArray) (k : Nat) (w : World) (hs : s.size ≤ maxLen) (h : ix (bl s) = (k : Int)) :
    Calls Try.prog 83 #[.string s, .string ⟨#[84]⟩] w fun e w' => e = .returned (.tuple #[.string (s.extract 0 k), .string (s.extract (k + 1) s.size), .bool true]) ∧ Below w.heap.size w w' := by
  have hk : k < s.size := by
    have := ix_bd (bl s)
    rw [h, bl_len] at this
    omega
  unfold maxLen at hs
  go_enter Try.func83, Try.ntmps83
  go_wp2_with (go_at_call 89; refine (index_any _ _).mono ?_; rintro e w' ⟨rfl, rfl⟩)
  go_region
  all_goals
    go_wp2
    go_ret3
    exact ⟨rfl, (Below.refl _ _).drew⟩
set_option maxHeartbeats 400000 in
theorem cut_yes (s : ByteArray) (k : Nat) (w : World) (hs : s.size ≤ maxLen) (h : ix (bl s) = (k : Int)) :
    Calls Try.prog 68 #[.string s, .string ⟨#[84]⟩] w fun e w' => e = .returned (.tuple #[.string (s.extract 0 k), .string (s.extract (k + 1) s.size), .bool true]) ∧ Below w.heap.size w w' := by
  go_enter Try.func68, Try.ntmps68
  go_wp2_with (go_at_call 83; refine (lcut_yes _ _ _ hs h).mono ?_; rintro e w' ⟨rfl, hb⟩)
  go_ret3
  exact ⟨rfl, hb⟩
theorem ext_sz (s : ByteArray) (i j : Nat) : (s.extract i j).size ≤ s.size := by
  rw [ByteArray.size_extract]; omega
theorem ext_one (s : ByteArray) (h : 0 < s.size) : (s.extract 0 1).toList = [s[0]'h] := by
  rw [Lib.toList_data, ByteArray.data_extract, Array.toList_extract, List.extract_eq_take_drop]
  rw [List.drop_zero]
  have h' : 0 < s.data.toList.length := by rw [Array.length_toList]; exact h
  rw [List.take_succ_eq_append_getElem h']
  simp
  rfl
theorem pre_aux (s : ByteArray) (h : 0 < s.size) (c : UInt8) : ((s.extract 0 1).toList == [c]) = decide ((bl s).head? = some (c.toNat : Int)) := by
  rw [ext_one s h, bl_cons s h, Bool.eq_iff_iff]
  simp
  constructor
  · rintro rfl; rfl
  · intro q; exact UInt8.toNat_inj.1 (by omega)
set_option maxHeartbeats 400000 in
theorem pre_p (s : ByteArray) (c : UInt8) (w : World) (hs : s.size ≤ maxLen) :
    Calls Try.prog 88 #[.string s, .string ⟨#[c]⟩] w fun e w' => e = .returned (.bool (decide ((bl s).head? = some (c.toNat : Int)))) ∧ w' = w := by
  unfold maxLen at hs
  by_cases h : 0 < s.size
  · have ha := pre_aux s h c
    generalize (decide ((bl s).head? = some (c.toNat : Int))) = B at *
    have h1 : (1 : Int) ≤ s.size := by omega
    go_enter Try.func88, Try.ntmps88
    go_wp2
    go_ret
    exact ⟨by rw [← ha]; rfl, rfl⟩
  · have hb : bl s = [] := bl_nil (by omega)
    have hB : (decide ((bl s).head? = some (c.toNat : Int))) = false := by rw [hb]; simp
    have h1 : ¬ (1 : Int) ≤ s.size := by omega
    rw [hB]
    go_enter Try.func88, Try.ntmps88
    go_wp2
    go_ret
    exact ⟨rfl, rfl⟩

set_option maxHeartbeats 400000 in
theorem lcp_p (s : ByteArray) (c : UInt8) (w : World) (hs : s.size ≤ maxLen) :
    Calls Try.prog 82 #[.string s, .string ⟨#[c]⟩] w fun e w' => e = .returned (.tuple #[.string (if (bl s).head? = some (c.toNat : Int) then s.extract 1 s.size else s), .bool (decide ((bl s).head? = some (c.toNat : Int)))]) ∧ w' = w := by
  have m1 := pre_p s c w hs
  unfold maxLen at hs
  have HM : Hid _ := And.intro m1 trivial
  clear m1
  by_cases h : (bl s).head? = some (c.toNat : Int)
  · have hp : 0 < s.size := by
      by_cases h0 : 0 < s.size
      · exact h0
      · rw [bl_nil (by omega)] at h; simp at h
    rw [if_pos h, decide_eq_true h]
    rw [decide_eq_true h] at HM
    have h1 : (1 : Int) ≤ s.size := by omega
    clear h
    go_enter Try.func82, Try.ntmps82
    go_wp2_with (first | (go_at_call 88; refine Calls.mono HM.out.1 ?_; rintro e w' ⟨rfl, rfl⟩))
    go_ret2
    exact ⟨rfl, rfl⟩
  · rw [if_neg h, decide_eq_false h]
    rw [decide_eq_false h] at HM
    clear h
    go_enter Try.func82, Try.ntmps82
    go_wp2_with (first | (go_at_call 88; refine Calls.mono HM.out.1 ?_; rintro e w' ⟨rfl, rfl⟩))
    go_ret2
    exact ⟨rfl, rfl⟩
set_option maxHeartbeats 400000 in
theorem cp_p (s : ByteArray) (c : UInt8) (w : World) (hs : s.size ≤ maxLen) :
    Calls Try.prog 67 #[.string s, .string ⟨#[c]⟩] w fun e w' => e = .returned (.tuple #[.string (if (bl s).head? = some (c.toNat : Int) then s.extract 1 s.size else s), .bool (decide ((bl s).head? = some (c.toNat : Int)))]) ∧ w' = w := by
  have HM : Hid _ := And.intro (lcp_p s c w hs) trivial
  generalize (if (bl s).head? = some (c.toNat : Int) then s.extract 1 s.size else s) = r at *
  generalize (decide ((bl s).head? = some (c.toNat : Int))) = b at *
  go_enter Try.func67, Try.ntmps67
  go_wp2_with (first | (go_at_call 82; refine Calls.mono HM.out.1 ?_; rintro e w' ⟨rfl, rfl⟩))
  go_ret2
  exact ⟨rfl, rfl⟩
end Go.Proofs.Ytijcbgjlofcdfaa
