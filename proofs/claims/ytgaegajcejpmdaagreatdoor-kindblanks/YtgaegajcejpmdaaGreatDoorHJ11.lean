/- Joined: HDcD4, HDcD5, HDcL0, HDcD6. -/
import Derived.Test.YtgaegajcejpmdaaGreatDoorHJ10
import Derived.Lib.Bytealg
import Derived.Test.YtgaegajcejpmdaaGreatDoorHDcB0
namespace Go.Proofs.YtgaegajcejpmdaaGreatDoor.Dc
open Go.RowKit
set_option linter.unusedVariables false

/-- What digits gives. -/
def DgP (l : List Int) (w : World) (e : Ending) (w' : World) : Prop :=
  Below w.heap.size w w' ∧ if dgs l = true then ∃ a c, e = .returned (.tuple #[.slice a l.length c, .bool true]) ∧ BtR w' (.slice a l.length c) (l.map (· - 48)) else e = .returned (.tuple #[.slice none 0 0, .bool false])
theorem DgP.bad {l : List Int} {w w' : World} (h : dgs l = false) (hb : Below w.heap.size w w') : DgP l w (.returned (.tuple #[.slice none 0 0, .bool false])) w' := by
  refine ⟨hb, ?_⟩
  rw [if_neg (by simp [h])]
theorem DgP.good {l ol : List Int} {w w' : World} {T n : Nat} (h : dgs l = true) (hb : Below w.heap.size w w') (hO : w'.heap[T]? = some (.cells (ol.map (Value.int .u8)).toArray 5 (0, 0))) (ho : ol = l.map (· - 48)) (hl : n = l.length) (hm : l.length ≤ 20000) : DgP l w (.returned (.tuple #[.slice (some ⟨T, 0, none⟩) n n, .bool true])) w' := by
  refine ⟨hb, ?_⟩
  rw [if_pos h]
  have hd := dgs_dg h
  rw [← ho] at hd
  have e : ol.length = l.length := by rw [ho]; simp
  refine ⟨_, _, by rw [hl], ?_⟩
  have := btr_out hO hd (by omega)
  rw [e, ho] at this
  exact this
theorem dgs_take {l : List Int} {i : Nat} (h : i < l.length) : dgs (l.take (i + 1)) = (dgs (l.take i) && decide (48 ≤ l[i]'h ∧ l[i]'h ≤ 57)) := by
  rw [List.take_succ_eq_append_getElem h, dgs_app]
  simp [dgs]
theorem dgs_no {l : List Int} {i : Nat} (h : i < l.length) (hn : ¬ (48 ≤ l[i]'h ∧ l[i]'h ≤ 57)) : dgs l = false := by
  unfold dgs
  rw [List.all_eq_false]
  exact ⟨_, List.getElem_mem h, by simpa using hn⟩
theorem bl_at (s : ByteArray) (i : Nat) (h : i < s.size) : (bl s)[i]'(by rw [bl_len]; exact h) = ((s[i]'h).toNat : Int) := by
  simp [bl]
  rfl
theorem take_set {ol : List Int} {i : Nat} {d : Int} (hi : i < ol.length) : (ol.set i d).take (i + 1) = ol.take i ++ [d] := by
  rw [List.take_succ_eq_append_getElem (by simpa using hi), List.take_set_of_le (Nat.le_refl _)]
  simp
set_option maxRecDepth 100000 in
set_option maxHeartbeats 3200000 in
theorem digits_p (s : ByteArray) (w : World) (hs : s.size ≤ 20000) : Calls Tryz.prog 106 #[.string s] w (DgP (bl s) w) := by
  obtain ⟨i5, z5, hi5, hz0, hzc, hz1, hz3⟩ := info5p
  have hz5 : z5 = .int .u8 0 := by
    have hh : (Tryz.prog.info? 5).bind (fun i => i.zero) = some (.int .u8 0) := by kernel_rfl
    rw [hi5] at hh
    simp at hh
    rw [hz0] at hh
    simpa using hh
  have hmk := run_makeSlice (P := Tryz.prog) w 32 5 i5 z5 Tryz.underlying32 hi5 hz0 .i64 .i64 (s.size : Int) (s.size : Int) (by omega) (by omega) (by rw [hz1]; omega) (by rw [hz3]; omega) (by omega)
  have htn : ((s.size : Int)).toNat = s.size := by omega
  rw [htn, hz1, hz5, made8] at hmk
  have hbA : Below w.heap.size w (w.alloc (.cells ((List.replicate s.size (0 : Int)).map (Value.int .u8)).toArray 5)) := (Below.refl _ _).alloc (Nat.le_refl _) _
  have hO := nw_heap w (.cells ((List.replicate s.size (0 : Int)).map (Value.int .u8)).toArray 5)
  generalize (w.alloc (.cells ((List.replicate s.size (0 : Int)).map (Value.int .u8)).toArray 5)) = W3 at *
  have HA : Hid _ := And.intro hbA hO
  clear hbA hO htn
  have hlen := bl_len s
  have HLN : Hid _ := hlen
  clear hlen
  go_enter Tryz.func106, Tryz.ntmps106
  go_wp2_with fail
  go_loopg [11] s.size (fun m v11 wr => ∃ (i : Nat) (ol : List Int), v11 = .int .i64 i ∧ i + m = s.size ∧ Hid (Below w.heap.size w wr) ∧ Hid (ol.length = s.size) ∧ wr.heap[w.heap.size]? = some (.cells (ol.map (Value.int .u8)).toArray 5 (0, 0)) ∧ Hid (ol.take i = ((bl s).take i).map (· - 48)) ∧ Hid (dgs ((bl s).take i) = true))
  case atStart => exact ⟨0, List.replicate s.size 0, rfl, by omega, HA.out.1, by show _ = _; simp, HA.out.2, by show _ = _; simp, rfl⟩
  case round =>
    obtain ⟨i, ol, rfl, him, hbr, hol, hO, htk, hdg⟩ := hrel
    by_cases hi : i < s.size
    · obtain ⟨m, rfl⟩ : ∃ m, gk = m + 1 := ⟨gk - 1, by omega⟩
      have hil : i < ol.length := by rw [hol.out]; exact hi
      have hib : i < (bl s).length := by rw [HLN.out]; exact hi
      obtain ⟨y0, yf⟩ := cellO hO hil
      have hcb : ((s[i]'hi).toNat : Int) < 256 := by have := (s[i]'hi).toNat_lt; omega
      have hat := bl_at s i hi
      have HO : Hid _ := And.intro hO (And.intro hat (And.intro hil hib))
      clear hO hat
      by_cases hd : 48 ≤ ((s[i]'hi).toNat : Int) ∧ ((s[i]'hi).toNat : Int) ≤ 57
      · obtain ⟨hd1, hd2⟩ := hd
        have s1 := setO (i := i) (d := ((s[i]'hi).toNat : Int) - 48) HO.out.1
        have s2 : Below w.heap.size w (wr.setCell ⟨w.heap.size, i, none⟩ (.int .u8 (((s[i]'hi).toNat : Int) - 48))) := hbr.out.setCell (p := ⟨w.heap.size, i, none⟩) (Nat.le_refl _) _
        have s3 : (ol.set i (((s[i]'hi).toNat : Int) - 48)).take (i + 1) = ((bl s).take (i + 1)).map (· - 48) := by
          rw [take_set HO.out.2.2.1, htk.out, List.take_succ_eq_append_getElem HO.out.2.2.2, List.map_append, HO.out.2.1]
          rfl
        have s4 : dgs ((bl s).take (i + 1)) = true := by
          rw [dgs_take HO.out.2.2.2, hdg.out, HO.out.2.1]
          simp [hd1, hd2]
        have HS : Hid _ := And.intro s1 (And.intro s2 (And.intro s3 s4))
        clear s1 s2 s3 s4
        go_wp2_with fail
        go_roundg m
        case measure => omega
        case rel => exact ⟨i + 1, _, by simp, by omega, HS.out.2.1, by show _ = _; rw [List.length_set]; exact hol.out, HS.out.1, HS.out.2.2.1, HS.out.2.2.2⟩
      · have hno : dgs (bl s) = false := dgs_no HO.out.2.2.2 (by rw [HO.out.2.1]; exact hd)
        have HN : Hid _ := hno
        clear hno
        by_cases hd1 : ((s[i]'hi).toNat : Int) < 48
        · clear hd
          go_wp2_with fail
          go_ret2
          exact DgP.bad HN.out hbr.out
        · have hd2 : 57 < ((s[i]'hi).toNat : Int) := by omega
          clear hd
          go_wp2_with fail
          go_ret2
          exact DgP.bad HN.out hbr.out
    · obtain rfl : i = s.size := by omega
      have e1 : ol = (bl s).map (· - 48) := by
        have := htk.out
        rw [List.take_of_length_le (by rw [hol.out]; omega), List.take_of_length_le (by rw [HLN.out]; omega)] at this
        exact this
      have e2 : dgs (bl s) = true := by
        have := hdg.out
        rwa [List.take_of_length_le (by rw [HLN.out]; omega)] at this
      have HF : Hid _ := And.intro hO (And.intro e1 e2)
      clear hO e1 e2
      go_wp2_with fail
      go_ret2
      exact DgP.good HF.out.2.2 hbr.out HF.out.1 HF.out.2.1 HLN.out.symm (by rw [HLN.out]; exact hs)
end Go.Proofs.YtgaegajcejpmdaaGreatDoor.Dc
namespace Go.Proofs.YtgaegajcejpmdaaGreatDoor.Dc
open Go.RowKit
set_option linter.unusedVariables false

theorem ret_int {k : IntKind} {a b : Int} (h : a = b) : Ending.returned (.int k a) = .returned (.int k b) := by rw [h]
theorem ret_bool {a b : Bool} (h : a = b) : Ending.returned (.bool a) = .returned (.bool b) := by rw [h]
/-- Where the first point stands; -1: nowhere. -/
def ix : List Int → Int
  | [] => -1
  | b :: l => if b = 46 then 0 else if ix l = -1 then -1 else ix l + 1
theorem ix_lib (l : List UInt8) : Lib.indexByte l 46 = ix (l.map fun c => (c.toNat : Int)) := by
  induction l with
  | nil => rfl
  | cons b l ih =>
    simp only [Lib.indexByte, List.map_cons, ix, ih]
    have e : (b == 46) = decide ((b.toNat : Int) = 46) := by
      rw [Bool.eq_iff_iff]; simp
      constructor
      · rintro rfl; rfl
      · intro h; exact UInt8.toNat_inj.1 (by simpa using (by omega : b.toNat = 46))
    rw [e]
    simp
theorem ix_bd (l : List Int) : ix l = -1 ∨ (0 ≤ ix l ∧ ix l < l.length) := by
  induction l with
  | nil => simp [ix]
  | cons b l ih =>
    have : ((b :: l).length : Int) = l.length + 1 := by simp
    rw [this]
    simp only [ix]
    by_cases h1 : b = 46
    · rw [if_pos h1]; omega
    · rw [if_neg h1]
      by_cases h2 : ix l = -1
      · rw [if_pos h2]; omega
      · rw [if_neg h2]; omega
theorem ct_ix : ∀ (l : List Int), (ix l = -1 → ctS l = (l, [])) ∧ (∀ k : Nat, ix l = k → ctS l = (l.take k, l.drop (k + 1)))
  | [] => ⟨fun _ => rfl, fun k h => by simp [ix] at h⟩
  | c :: l => by
    have ih := ct_ix l
    rw [ix, ctS]
    by_cases h1 : c = 46
    · rw [if_pos h1, if_pos h1]
      refine ⟨fun h => by omega, fun k h => ?_⟩
      have : k = 0 := by omega
      rw [this]; simp
    · rw [if_neg h1, if_neg h1]
      by_cases h2 : ix l = -1
      · rw [if_pos h2, ih.1 h2]
        exact ⟨fun _ => rfl, fun k h => by omega⟩
      · rw [if_neg h2]
        refine ⟨fun h => by have := ix_bd l; omega, fun k h => ?_⟩
        obtain ⟨j, rfl⟩ : ∃ j, k = j + 1 := ⟨k - 1, by have := ix_bd l; omega⟩
        rw [ih.2 j (by omega)]
        simp
theorem bl_pre (s : ByteArray) (k : Nat) (h : k ≤ s.size) : bl (s.extract 0 k) = (bl s).take k := by
  unfold bl
  rw [ByteArray.data_extract, Array.toList_extract, List.extract_eq_take_drop, ← List.map_take]
  simp
theorem bl_suf (s : ByteArray) (k : Nat) : bl (s.extract k s.size) = (bl s).drop k := by
  unfold bl
  rw [ByteArray.data_extract, Array.toList_extract, List.extract_eq_take_drop, List.map_drop.symm]
  congr 1
  rw [List.take_of_length_le]
  rw [List.length_drop]
  exact Nat.le_refl _
theorem point_run (s : ByteArray) (c : Int) (w : World) : (callFunc 215 #[.string s, .int .u8 c]).run Tryz.prog w = .ok (.value (.int .i64 (Lib.indexByte s.data.toList c.toNat.toUInt8))) w := by
  rw [run_callFunc_extern Tryz.func215 (by kernel_rfl) (by kernel_rfl) (by kernel_rfl) (e := Extern.BytealgIndexByte.indexByte) (by kernel_rfl), Lib.run_indexByteString]
  rfl
set_option maxHeartbeats 400000 in
theorem index_any (s : ByteArray) (w : World) :
    Calls Tryz.prog 176 #[.string s, .string ⟨#[46]⟩] w fun e w' => e = .returned (.int .i64 (ix (bl s))) ∧ w' = w := by
  have hr := point_run s
  go_enter Tryz.func176, Tryz.ntmps176
  go_wp2
  · go_ret
    refine ⟨ret_int ?_, rfl⟩
    have h : s.toList = [46] := (beq_iff_eq.1 ‹_›).symm
    have : bl s = [46] := by unfold bl; rw [← Lib.toList_data, h]; rfl
    rw [this]; rfl
  · go_ret
    refine ⟨ret_int ?_, rfl⟩
    exact ix_lib s.data.toList
set_option maxHeartbeats 400000 in
theorem lcut_no (s : ByteArray) (w : World) (h : ix (bl s) = -1) :
    Calls Tryz.prog 148 #[.string s, .string ⟨#[46]⟩] w fun e w' => e = .returned (.tuple #[.string s, .string ⟨#[]⟩, .bool false]) ∧ w' = w := by
  go_enter Tryz.func148, Tryz.ntmps148
  go_wp2_with (go_at_call 176; refine (index_any _ _).mono ?_; rintro e w' ⟨rfl, rfl⟩)
  go_ret3
  exact ⟨rfl, rfl⟩
set_option maxHeartbeats 400000 in
theorem cut_no (s : ByteArray) (w : World) (h : ix (bl s) = -1) :
    Calls Tryz.prog 105 #[.string s, .string ⟨#[46]⟩] w fun e w' => e = .returned (.tuple #[.string s, .string ⟨#[]⟩, .bool false]) ∧ w' = w := by
  go_enter Tryz.func105, Tryz.ntmps105
  go_wp2_with (go_at_call 148; refine (lcut_no _ _ h).mono ?_; rintro e w' ⟨rfl, rfl⟩)
  go_ret3
  exact ⟨rfl, rfl⟩
set_option maxHeartbeats 400000 in
theorem lcut_yes (s : ByteArray) (k : Nat) (w : World) (hs : s.size ≤ maxLen) (h : ix (bl s) = (k : Int)) :
    Calls Tryz.prog 148 #[.string s, .string ⟨#[46]⟩] w fun e w' => e = .returned (.tuple #[.string (s.extract 0 k), .string (s.extract (k + 1) s.size), .bool true]) ∧ Below w.heap.size w w' := by
  have hk : k < s.size := by
    have := ix_bd (bl s)
    rw [h, bl_len] at this
    omega
  unfold maxLen at hs
  go_enter Tryz.func148, Tryz.ntmps148
  go_wp2_with (go_at_call 176; refine (index_any _ _).mono ?_; rintro e w' ⟨rfl, rfl⟩)
  go_region
  all_goals
    go_wp2
    go_ret3
    exact ⟨rfl, (Below.refl _ _).drew⟩
set_option maxHeartbeats 400000 in
theorem cut_yes (s : ByteArray) (k : Nat) (w : World) (hs : s.size ≤ maxLen) (h : ix (bl s) = (k : Int)) :
    Calls Tryz.prog 105 #[.string s, .string ⟨#[46]⟩] w fun e w' => e = .returned (.tuple #[.string (s.extract 0 k), .string (s.extract (k + 1) s.size), .bool true]) ∧ Below w.heap.size w w' := by
  go_enter Tryz.func105, Tryz.ntmps105
  go_wp2_with (go_at_call 148; refine (lcut_yes _ _ _ hs h).mono ?_; rintro e w' ⟨rfl, hb⟩)
  go_ret3
  exact ⟨rfl, hb⟩
theorem ext_sz (s : ByteArray) (i j : Nat) : (s.extract i j).size ≤ s.size := by
  rw [ByteArray.size_extract]; omega
/-- Cut, both ways. -/
theorem cut_p (s : ByteArray) (w : World) (hs : s.size ≤ maxLen) :
    Calls Tryz.prog 105 #[.string s, .string ⟨#[46]⟩] w fun e w' => ∃ (x y : ByteArray) (b : Bool), e = .returned (.tuple #[.string x, .string y, .bool b]) ∧ (bl x, bl y) = ctS (bl s) ∧ x.size + y.size ≤ s.size ∧ Below w.heap.size w w' := by
  rcases ix_bd (bl s) with h | ⟨h0, h1⟩
  · refine Calls.mono (cut_no s w h) ?_
    rintro e w' ⟨rfl, rfl⟩
    exact ⟨_, _, _, rfl, ((ct_ix (bl s)).1 h).symm, Nat.le_refl _, Below.refl _ _⟩
  · obtain ⟨k, hk⟩ := Int.eq_ofNat_of_zero_le h0
    rw [bl_len] at h1
    refine Calls.mono (cut_yes s k w hs hk) ?_
    rintro e w' ⟨rfl, hb⟩
    refine ⟨_, _, _, rfl, ?_, ?_, hb⟩
    · rw [bl_pre s k (by omega), bl_suf]
      exact ((ct_ix (bl s)).2 k hk).symm
    · rw [ByteArray.size_extract, ByteArray.size_extract]; omega
theorem ext_one (s : ByteArray) (h : 0 < s.size) : (s.extract 0 1).toList = [s[0]'h] := by
  rw [Lib.toList_data, ByteArray.data_extract, Array.toList_extract, List.extract_eq_take_drop]
  rw [List.drop_zero]
  have h' : 0 < s.data.toList.length := by rw [Array.length_toList]; exact h
  rw [List.take_succ_eq_append_getElem h']
  simp
  rfl
theorem pre_aux (s : ByteArray) (h : 0 < s.size) (c : UInt8) : ((s.extract 0 1).toList == [c]) = decide ((bl s).head? = some (c.toNat : Int)) := by
  rw [ext_one s h, bl_cons s h, Bool.eq_iff_iff]
  simp
  constructor
  · rintro rfl; rfl
  · intro q; exact UInt8.toNat_inj.1 (by omega)
set_option maxHeartbeats 400000 in
theorem pre_p (s : ByteArray) (c : UInt8) (w : World) (hs : s.size ≤ maxLen) :
    Calls Tryz.prog 104 #[.string s, .string ⟨#[c]⟩] w fun e w' => e = .returned (.bool (decide ((bl s).head? = some (c.toNat : Int)))) ∧ w' = w := by
  unfold maxLen at hs
  by_cases h : 0 < s.size
  · have ha := pre_aux s h c
    generalize (decide ((bl s).head? = some (c.toNat : Int))) = B at *
    have h1 : (1 : Int) ≤ s.size := by omega
    go_enter Tryz.func104, Tryz.ntmps104
    go_wp2
    go_ret
    exact ⟨by rw [← ha]; rfl, rfl⟩
  · have hb : bl s = [] := bl_nil (by omega)
    have hB : (decide ((bl s).head? = some (c.toNat : Int))) = false := by rw [hb]; simp
    have h1 : ¬ (1 : Int) ≤ s.size := by omega
    rw [hB]
    go_enter Tryz.func104, Tryz.ntmps104
    go_wp2
    go_ret
    exact ⟨rfl, rfl⟩
end Go.Proofs.YtgaegajcejpmdaaGreatDoor.Dc
namespace Go.Proofs.YtgaegajcejpmdaaGreatDoor.Dc
open Go.RowKit
set_option linter.unusedVariables false

/-- What the program's Parse gives. -/
def PrP (l : List Int) (w : World) (e : Ending) (w' : World) : Prop :=
  Below w.heap.size w w' ∧ match parS l with
  | .error x => ∃ v0, e = .returned (.tuple #[nmV false v0 0, .int .i64 x]) ∧ BtR w' v0 []
  | .ok n => ∃ rv, e = .returned (.tuple #[nmV n.1 rv n.2.2, .int .i64 0]) ∧ BtR w' rv n.2.1
/-- What the program's Add gives. -/
def ArP (a b : Nm) (w : World) (e : Ending) (w' : World) : Prop :=
  Below w.heap.size w w' ∧ match adS a b with
  | .error x => ∃ v0, e = .returned (.tuple #[nmV false v0 0, .int .i64 x]) ∧ BtR w' v0 []
  | .ok n => ∃ rv, e = .returned (.tuple #[nmV n.1 rv n.2.2, .int .i64 0]) ∧ BtR w' rv n.2.1
/-- A number's box stands. -/
theorem boxK {w : World} {T : Nat} {x y z : Value} {t : TypeId} (h : w.heap[T]? = some (.cells #[x, y, z] t (0, 0))) : ∀ W, Below w.heap.size w W → W.cell? ⟨T, 0, none⟩ = some x ∧ W.cell? ⟨T, 1, none⟩ = some y ∧ W.cell? ⟨T, 2, none⟩ = some z := fun W hb => bl3 ((hb.block _ (lt_of h)).trans h)
def kA : List Int := [45, 48, 48, 55, 46, 53, 48]
def kB : List Int := [43, 46, 53]
theorem parA : parS kA = .ok (true, [7, 5], 1) := by rfl
theorem parB : parS kB = .ok (false, [0, 5], 1) := by rfl
theorem cnA : CN (true, [7, 5], 1) := (par_ok parA).1
theorem cnB : CN (false, [0, 5], 1) := (par_ok parB).1
theorem smAB : smS (true, [7, 5], 1) (false, [0, 5], 1) = (true, [7], 0) := by rfl
theorem adAB : adS (true, [7, 5], 1) (false, [0, 5], 1) = .ok (true, [7], 0) := by rfl
theorem cnC : CN (true, [7], 0) := by have := (sm_ok cnA cnB).1; rwa [smAB] at this
theorem txA : sb (txS (true, [7, 5], 1)) = ⟨#[45, 55, 46, 53]⟩ := by rfl
theorem txB : sb (txS (false, [0, 5], 1)) = ⟨#[48, 46, 53]⟩ := by rfl
theorem txC : sb (txS (true, [7], 0)) = ⟨#[45, 55]⟩ := by rfl
theorem cmAB : cmpS (true, [7, 5], 1) (false, [0, 5], 1) = -1 := by rfl
theorem toB : totS [0, 5] 1 = 1 := by rfl
theorem ngA : ngS (true, [7, 5], 1) = (false, [7, 5], 1) := by rfl
theorem txN : sb (txS (false, [7, 5], 1)) = ⟨#[55, 46, 53]⟩ := by rfl
theorem cnN : CN (false, [7, 5], 1) := by have := (ng_ok cnA).1; rwa [ngA] at this
end Go.Proofs.YtgaegajcejpmdaaGreatDoor.Dc
namespace Go.Proofs.YtgaegajcejpmdaaGreatDoor.Dc
open Go.RowKit
set_option linter.unusedVariables false

theorem PrP.bad {l : List Int} {w w' : World} {x : Int} (h : parS l = .error x) (hb : Below w.heap.size w w') : PrP l w (.returned (.tuple #[nmV false (.slice none 0 0) 0, .int .i64 x])) w' := by
  refine ⟨hb, ?_⟩
  rw [h]
  exact ⟨_, rfl, none, 0, rfl, Nat.le_refl _, Nat.zero_le _, fun d hd => by simp at hd, .inl rfl⟩
theorem PrP.good {l : List Int} {w w' : World} {n : Nm} {rv : Value} (h : parS l = .ok n) (hb : Below w.heap.size w w') (ht : BtR w' rv n.2.1) : PrP l w (.returned (.tuple #[nmV n.1 rv n.2.2, .int .i64 0])) w' := by
  refine ⟨hb, ?_⟩
  rw [h]
  exact ⟨rv, rfl, ht⟩
/-- Its sign, and what follows it. -/
theorem sg_cases (s : ByteArray) : ((bl s).head? = some 45 ∧ 0 < s.size ∧ sgS (bl s) = (true, bl (s.extract 1 s.size))) ∨ ((bl s).head? ≠ some 45 ∧ (bl s).head? = some 43 ∧ 0 < s.size ∧ sgS (bl s) = (false, bl (s.extract 1 s.size))) ∨ ((bl s).head? ≠ some 45 ∧ (bl s).head? ≠ some 43 ∧ sgS (bl s) = (false, bl s)) := by
  rw [bl_ext]
  by_cases h0 : 0 < s.size
  · have hc := bl_cons s h0
    generalize ((s[0]'h0).toNat : Int) = c at *
    rw [hc]
    simp only [List.head?_cons, Option.some.injEq, sgS, List.drop_succ_cons, List.drop_zero]
    by_cases h1 : c = 45
    · exact .inl ⟨h1, h0, by rw [if_neg (by omega), if_pos h1]⟩
    · by_cases h2 : c = 43
      · exact .inr (.inl ⟨by simpa using h1, h2, h0, by rw [if_pos h2]⟩)
      · exact .inr (.inr ⟨by simpa using h1, by simpa using h2, by rw [if_neg h2, if_neg h1]⟩)
  · rw [bl_nil (by omega)]
    exact .inr (.inr ⟨by simp, by simp, rfl⟩)
theorem bl_app (a b : ByteArray) : bl (a ++ b) = bl a ++ bl b := by
  unfold bl
  rw [← List.map_append]
  congr 1
theorem bl_e0 {s : ByteArray} : bl s = [] ↔ s.size = 0 := ⟨fun h => by rw [← bl_len, h]; rfl, bl_nil⟩
set_option maxRecDepth 100000 in
set_option maxHeartbeats 6400000 in
theorem parse_p (s : ByteArray) (w : World) (hsm : s.size ≤ maxLen) : Calls Tryz.prog 59 #[.string s] w (PrP (bl s) w) := by
  have hpm := fun c W => pre_p s c W hsm
  unfold maxLen at hsm
  have hb0 : Below w.heap.size w (w.alloc zP) := (Below.refl _ _).alloc (Nat.le_refl _) _
  have hR0 := nw_heap w zP
  have hpl := par_cut (bl s)
  rw [bl_len] at hpl
  have HP : Hid _ := And.intro hpl (And.intro hb0 (And.intro hR0 hpm))
  clear hpl hb0 hR0 hpm
  by_cases hbig : (4096 : Int) < s.size
  · go_enter Tryz.func59, Tryz.ntmps59
    go_wp2_with fail
    exact bodyPost_ret (v := .tuple #[nmV false (.slice none 0 0) 0, .int .i64 3]) (by simp [results, Tryz.results59, go_sem]) rfl (PrP.bad (by rw [HP.out.1, if_pos (by omega)]) HP.out.2.1)
  have hpl2 := HP.out.1
  rw [if_neg (show ¬ 4096 < s.size by omega)] at hpl2
  have hpm := HP.out.2.2.2
  have hsg := sg_cases s
  generalize hL : bl s = L at *
  have HP2 : Hid _ := And.intro hpl2 (And.intro HP.out.2.1 (And.intro HP.out.2.2.1 (And.intro (hpm 45) (hpm 43))))
  have HL : Hid _ := hL
  clear hpl2 HP hL hpm
  go_enter Tryz.func59, Tryz.ntmps59
  rcases hsg with ⟨h1, hp, hs1⟩ | ⟨h1, h2, hp, hs1⟩ | ⟨h1, h2, hs1⟩
  case' inl =>
    have hd1 : decide (L.head? = some ((45 : UInt8).toNat : Int)) = true := decide_eq_true h1
    have HS : Hid _ := hs1
    have HD : Hid _ := hd1
    clear hd1 h1 hs1
    go_wp2_with fail
    refine Calls.mono (HP2.out.2.2.2.1 _) ?_
    rintro e w' ⟨rfl, rfl⟩
    rw [HD.out]
    go_wp2_with fail
    have hs' : (s.extract 1 s.size).size ≤ 4096 := by have := ext_size s; omega
    generalize s.extract 1 s.size = s' at *
  case' inr.inl =>
    have hd1 : decide (L.head? = some ((45 : UInt8).toNat : Int)) = false := decide_eq_false h1
    have hd2 : decide (L.head? = some ((43 : UInt8).toNat : Int)) = true := decide_eq_true h2
    have HS : Hid _ := hs1
    have HD : Hid _ := And.intro hd1 hd2
    clear hd1 hd2 h1 h2 hs1
    go_wp2_with fail
    refine Calls.mono (HP2.out.2.2.2.1 _) ?_
    rintro e w' ⟨rfl, rfl⟩
    rw [HD.out.1]
    go_wp2_with fail
    refine Calls.mono (HP2.out.2.2.2.2 _) ?_
    rintro e w' ⟨rfl, rfl⟩
    rw [HD.out.2]
    go_wp2_with fail
    have hs' : (s.extract 1 s.size).size ≤ 4096 := by have := ext_size s; omega
    generalize s.extract 1 s.size = s' at *
  case' inr.inr =>
    have hd1 : decide (L.head? = some ((45 : UInt8).toNat : Int)) = false := decide_eq_false h1
    have hd2 : decide (L.head? = some ((43 : UInt8).toNat : Int)) = false := decide_eq_false h2
    have hs2 : sgS L = (false, bl s) := by rw [HL.out]; exact hs1
    have HS : Hid _ := hs2
    clear hs2
    have HD : Hid _ := And.intro hd1 hd2
    clear hd1 hd2 h1 h2 hs1
    go_wp2_with fail
    refine Calls.mono (HP2.out.2.2.2.1 _) ?_
    rintro e w' ⟨rfl, rfl⟩
    rw [HD.out.1]
    go_wp2_with fail
    refine Calls.mono (HP2.out.2.2.2.2 _) ?_
    rintro e w' ⟨rfl, rfl⟩
    rw [HD.out.2]
    go_wp2_with fail
    have hs' : s.size ≤ 4096 := by omega
    clear HL
    rename ByteArray => s'
  all_goals
    have hc := cut_p s' (w.alloc zP) (by unfold maxLen; omega)
    refine Calls.mono hc ?_
    rintro e w1 ⟨x, y, bb, rfl, hct, hxy, hb1⟩
    have hct1 : (ctS (bl s')).1 = bl x := by rw [← hct]
    have hct2 : (ctS (bl s')).2 = bl y := by rw [← hct]
    have hpl := HP2.out.1
    rw [HS.out] at hpl
    dsimp only at hpl
    rw [hct1, hct2] at hpl
    have hbw1 := HP2.out.2.1.trans (hb1.mono HP2.out.2.1.size)
    have hz1 := (hb1.block _ (lt_of HP2.out.2.2.1)).trans HP2.out.2.2.1
    obtain ⟨r0, r1, r2⟩ := bl3 hz1
    obtain ⟨rf0, rf1, rf2⟩ := bl3f hz1
    have H1 : Hid _ := And.intro hpl (And.intro hbw1 hz1)
    clear hc hct hct1 hct2 hpl hbw1 hz1 hb1 HP2
    have hcase : (x.size = 0 ∧ y.size = 0) ∨ (x.size = 0 ∧ 0 < y.size) ∨ 0 < x.size := by omega
    rcases hcase with ⟨hx, hy⟩ | ⟨hx, hy⟩ | hx
    case' inl =>
      have hpe : parS L = .error 2 := by rw [H1.out.1, if_pos ⟨bl_nil hx, bl_nil hy⟩]
      have e1 := tl_ee hx
      have e2 := tl_ee hy
      have HPE : Hid _ := hpe
      clear hpe
      go_wp2_with fail
      obtain ⟨k1, k2, k3, k4⟩ := set3 H1.out.2.1 (Nat.le_refl _) H1.out.2.2 (.bool false) (.slice none 0 0) (.int .i64 0)
      generalize (((w1.setCell ⟨w.heap.size, 0, none⟩ (.bool false)).setCell ⟨w.heap.size, 1, none⟩ (.slice none 0 0)).setCell ⟨w.heap.size, 2, none⟩ (.int .i64 0)) = W9 at *
      obtain ⟨y0, y1, y2⟩ := bl3 k1
      exact bodyPost_ret (v := .tuple #[nmV false (.slice none 0 0) 0, .int .i64 2]) (by simp [results, Tryz.results59, go_sem, y0, y1, y2]) rfl (PrP.bad HPE.out k2)
    case' inr.inl =>
      have hpe := H1.out.1
      rw [if_neg (fun q => by rw [bl_e0] at q; rw [bl_e0] at q; omega)] at hpe
      have e1 := tl_ee hx
      have e2 := tl_nn hy
      have HPE : Hid _ := hpe
      clear hpe
      go_wp2_with fail
    case' inr.inr =>
      have hpe := H1.out.1
      rw [if_neg (fun q => by rw [bl_e0] at q; omega)] at hpe
      have e1 := tl_nn hx
      have HPE : Hid _ := hpe
      clear hpe
      go_wp2_with fail
    all_goals
      have hzs : ((⟨#[48]⟩ : ByteArray) ++ x ++ y).size = 1 + x.size + y.size := by rw [ByteArray.size_append, ByteArray.size_append]; rfl
      have hbz : bl ((⟨#[48]⟩ : ByteArray) ++ x ++ y) = 48 :: (bl x ++ bl y) := by rw [bl_app, bl_app]; rfl
      have hdp := digits_p ((⟨#[48]⟩ : ByteArray) ++ x ++ y) w1 (by rw [hzs]; omega)
      rw [hbz] at hdp
      have hlx := bl_len x
      have hly := bl_len y
      refine Calls.mono hdp ?_
      rintro e w2 ⟨hb2, hdd⟩
      have hd48 : dgs (48 :: (bl x ++ bl y)) = dgs (bl x ++ bl y) := by simp [dgs]
      have hbw2 := H1.out.2.1.trans (hb2.mono H1.out.2.1.size)
      have hz2 := (hb2.block _ (lt_of H1.out.2.2)).trans H1.out.2.2
      rw [hd48] at hdd
      have hpe := HPE.out
      rw [hly] at hpe
      clear r0 r1 r2 rf0 rf1 rf2 hzs hbz hdp hd48 hb2 HPE
      obtain ⟨r0, r1, r2⟩ := bl3 hz2
      obtain ⟨rf0, rf1, rf2⟩ := bl3f hz2
      obtain ⟨ll, hll⟩ : ∃ ll, ll = 0 :: (bl x ++ bl y).map (· - 48) := ⟨_, rfl⟩
      have hln : (48 :: (bl x ++ bl y)).length = ll.length := by rw [hll]; simp
      have hln2 : ll.length = x.size + y.size + 1 := by rw [← hln, ← hlx, ← hly]; simp
      have hmp : (48 :: (bl x ++ bl y)).map (· - 48) = ll := by rw [hll]; rfl
      rw [hln, hmp] at hdd
      rw [← hll] at hpe
      by_cases hdg : dgs (bl x ++ bl y) = true
      · rw [if_pos hdg] at hdd hpe
        obtain ⟨ra, rc, rfl, hbt⟩ := hdd
        have hdl : Dg ll := by
          rw [hll]
          have := dgs_dg hdg
          intro d hd
          rcases List.mem_cons.1 hd with q | q
          · omega
          · exact this d q
        have hcn := fun ng => canon_p hbt hdl ng y.size (by omega) (by omega)
        have H2 : Hid _ := And.intro hpe (And.intro hbw2 (And.intro hz2 hcn))
        have HLN : Hid _ := hln2
        clear hpe hbw2 hz2 hcn hdl hbt hll hln hln2 hmp hdg hlx hly H1
        go_wp2_with fail
        refine Calls.mono (H2.out.2.2.2 _) ?_
        rintro e w3 ⟨rv, rfl, hbt3, hrv3, hb3⟩
        have hz3 := (hb3.block _ (lt_of H2.out.2.2.1)).trans H2.out.2.2.1
        have hbw3 := H2.out.2.1.trans (hb3.mono H2.out.2.1.size)
        have hszw := H2.out.2.1.size
        clear r0 r1 r2 rf0 rf1 rf2
        obtain ⟨y0, y1, y2⟩ := bl3 hz3
        obtain ⟨yf0, yf1, yf2⟩ := bl3f hz3
        obtain ⟨rb, rd, rfl, _⟩ := hbt3.form
        have H3 : Hid _ := And.intro hbt3 (And.intro hz3 (And.intro hbw3 hrv3))
        clear hbt3 hb3 hz3 hbw3 hrv3
        go_wp2_with fail
        have hpe := H2.out.1
        generalize canS _ ll y.size = C at *
        obtain ⟨c1, c2, c3⟩ := C
        dsimp only at *
        obtain ⟨k1, k2, k3, k4⟩ := set3 H3.out.2.2.1 (Nat.le_refl _) H3.out.2.1 (.bool c1) (.slice rb c2.length rd) (.int .i64 c3)
        have hbt9 := H3.out.1.kept (Nat.le_of_eq k4.symm) k3 (fun k hk hn e => by have := H3.out.2.2.2 k hk; omega)
        generalize (((w3.setCell ⟨w.heap.size, 0, none⟩ (.bool c1)).setCell ⟨w.heap.size, 1, none⟩ (.slice rb c2.length rd)).setCell ⟨w.heap.size, 2, none⟩ (.int .i64 c3)) = W9 at *
        obtain ⟨j0, j1, j2⟩ := bl3 k1
        exact bodyPost_ret (v := .tuple #[nmV c1 (.slice rb c2.length rd) c3, .int .i64 0]) (by simp [results, Tryz.results59, go_sem, j0, j1, j2]) rfl (PrP.good (n := (c1, c2, c3)) hpe k2 hbt9)
      · rw [if_neg hdg] at hdd hpe
        subst hdd
        have HPE : Hid _ := And.intro hpe (And.intro hbw2 hz2)
        clear hpe hbw2 hz2 hll hln hln2 hmp hdg hlx hly H1
        go_wp2_with fail
        obtain ⟨k1, k2, k3, k4⟩ := set3 HPE.out.2.1 (Nat.le_refl _) HPE.out.2.2 (.bool false) (.slice none 0 0) (.int .i64 0)
        generalize (((w2.setCell ⟨w.heap.size, 0, none⟩ (.bool false)).setCell ⟨w.heap.size, 1, none⟩ (.slice none 0 0)).setCell ⟨w.heap.size, 2, none⟩ (.int .i64 0)) = W9 at *
        obtain ⟨y0, y1, y2⟩ := bl3 k1
        exact bodyPost_ret (v := .tuple #[nmV false (.slice none 0 0) 0, .int .i64 2]) (by simp [results, Tryz.results59, go_sem, y0, y1, y2]) rfl (PrP.bad HPE.out.1 k2)
end Go.Proofs.YtgaegajcejpmdaaGreatDoor.Dc
