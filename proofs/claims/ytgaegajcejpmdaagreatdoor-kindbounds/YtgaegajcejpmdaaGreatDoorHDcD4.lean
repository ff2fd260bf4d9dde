/- The program: digits; the library's HasPrefix and Cut. -/
import Derived.Test.YtgaegajcejpmdaaGreatDoorHDcD1
namespace Go.Proofs.YtgaegajcejpmdaaGreatDoor.Dc
open Go.RowKit
set_option linter.unusedVariables false

/-- What digits gives. -/
def DgP (l : List Int) (w : World) (e : Ending) (w' : World) : Prop :=
  Below w.heap.size w w' ∧ if dgs l = true then ∃ a c, e = .returned (.tuple #[.slice a l.length c, .bool true]) ∧ BtR w' (.slice a l.length c) (l.map (· - 48)) else e = .returned (.tuple #[.slice none 0 0, .bool false])
theorem DgP.bad {l : List Int} {w w' : World} (h : dgs l = false) (hb : Below w.heap.size w w') : DgP l w (.returned (.tuple #[.slice none 0 0, .bool false])) w' := by
  refine ⟨hb, ?_⟩
  rw [if_neg (by simp [h])]
theorem DgP.good {l ol : List Int} {w w' : World} {T n : Nat} (h : dgs l = true) (hb : Below w.heap.size w w') (hO : w'.heap[T]? = some (.cells (ol.map (Value.int .u8)).toArray 5 (0, 0))) (ho : ol = l.map (· - 48)) (hl : n = l.length) (hm : l.length ≤ 20000) : DgP l w (.returned (.tuple #[.slice (some ⟨T, 0, none⟩) n n, .bool true])) w' := by
  refine ⟨hb, ?_⟩
  rw [if_pos h]
  have hd := dgs_dg h
  rw [← ho] at hd
  have e : ol.length = l.length := by rw [ho]; simp
  refine ⟨_, _, by rw [hl], ?_⟩
  have := btr_out hO hd (by omega)
  rw [e, ho] at this
  exact this
theorem dgs_take {l : List Int} {i : Nat} (h : i < l.length) : dgs (l.take (i + 1)) = (dgs (l.take i) && decide (48 ≤ l[i]'h ∧ l[i]'h ≤ 57)) := by
  rw [List.take_succ_eq_append_getElem h, dgs_app]
  simp [dgs]
theorem dgs_no {l : List Int} {i : Nat} (h : i < l.length) (hn : ¬ (48 ≤ l[i]'h ∧ l[i]'h ≤ 57)) : dgs l = false := by
  unfold dgs
  rw [List.all_eq_false]
  exact ⟨_, List.getElem_mem h, by simpa using hn⟩
theorem bl_at (s : ByteArray) (i : Nat) (h : i < s.size) : (bl s)[i]'(by rw [bl_len]; exact h) = ((s[i]'h).toNat : Int) := by
  simp [bl]
  rfl
theorem take_set {ol : List Int} {i : Nat} {d : Int} (hi : i < ol.length) : (ol.set i d).take (i + 1) = ol.take i ++ [d] := by
  rw [List.take_succ_eq_append_getElem (by simpa using hi), List.take_set_of_le (Nat.le_refl _)]
  simp
set_option maxRecDepth 100000 in
set_option maxHeartbeats 3200000 in
theorem digits_p (s : ByteArray) (w : World) (hs : s.size ≤ 20000) : Calls Tryz.prog 106 #[.string s] w (DgP (bl s) w) := by
  obtain ⟨i5, z5, hi5, hz0, hzc, hz1, hz3⟩ := info5p
  have hz5 : z5 = .int .u8 0 := by
    have hh : (Tryz.prog.info? 5).bind (fun i => i.zero) = some (.int .u8 0) := by kernel_rfl
    rw [hi5] at hh
    simp at hh
    rw [hz0] at hh
    simpa using hh
  have hmk := run_makeSlice (P := Tryz.prog) w 32 5 i5 z5 Tryz.underlying32 hi5 hz0 .i64 .i64 (s.size : Int) (s.size : Int) (by omega) (by omega) (by rw [hz1]; omega) (by rw [hz3]; omega) (by omega)
  have htn : ((s.size : Int)).toNat = s.size := by omega
  rw [htn, hz1, hz5, made8] at hmk
  have hbA : Below w.heap.size w (w.alloc (.cells ((List.replicate s.size (0 : Int)).map (Value.int .u8)).toArray 5)) := (Below.refl _ _).alloc (Nat.le_refl _) _
  have hO := nw_heap w (.cells ((List.replicate s.size (0 : Int)).map (Value.int .u8)).toArray 5)
  generalize (w.alloc (.cells ((List.replicate s.size (0 : Int)).map (Value.int .u8)).toArray 5)) = W3 at *
  have HA : Hid _ := And.intro hbA hO
  clear hbA hO htn
  have hlen := bl_len s
  have HLN : Hid _ := hlen
  clear hlen
  go_enter Tryz.func106, Tryz.ntmps106
  go_wp2_with fail
  go_loopg [11] s.size (fun m v11 wr => ∃ (i : Nat) (ol : List Int), v11 = .int .i64 i ∧ i + m = s.size ∧ Hid (Below w.heap.size w wr) ∧ Hid (ol.length = s.size) ∧ wr.heap[w.heap.size]? = some (.cells (ol.map (Value.int .u8)).toArray 5 (0, 0)) ∧ Hid (ol.take i = ((bl s).take i).map (· - 48)) ∧ Hid (dgs ((bl s).take i) = true))
  case atStart => exact ⟨0, List.replicate s.size 0, rfl, by omega, HA.out.1, by show _ = _; simp, HA.out.2, by show _ = _; simp, rfl⟩
  case round =>
    obtain ⟨i, ol, rfl, him, hbr, hol, hO, htk, hdg⟩ := hrel
    by_cases hi : i < s.size
    · obtain ⟨m, rfl⟩ : ∃ m, gk = m + 1 := ⟨gk - 1, by omega⟩
      have hil : i < ol.length := by rw [hol.out]; exact hi
      have hib : i < (bl s).length := by rw [HLN.out]; exact hi
      obtain ⟨y0, yf⟩ := cellO hO hil
      have hcb : ((s[i]'hi).toNat : Int) < 256 := by have := (s[i]'hi).toNat_lt; omega
      have hat := bl_at s i hi
      have HO : Hid _ := And.intro hO (And.intro hat (And.intro hil hib))
      clear hO hat
      by_cases hd : 48 ≤ ((s[i]'hi).toNat : Int) ∧ ((s[i]'hi).toNat : Int) ≤ 57
      · obtain ⟨hd1, hd2⟩ := hd
        have s1 := setO (i := i) (d := ((s[i]'hi).toNat : Int) - 48) HO.out.1
        have s2 : Below w.heap.size w (wr.setCell ⟨w.heap.size, i, none⟩ (.int .u8 (((s[i]'hi).toNat : Int) - 48))) := hbr.out.setCell (p := ⟨w.heap.size, i, none⟩) (Nat.le_refl _) _
        have s3 : (ol.set i (((s[i]'hi).toNat : Int) - 48)).take (i + 1) = ((bl s).take (i + 1)).map (· - 48) := by
          rw [take_set HO.out.2.2.1, htk.out, List.take_succ_eq_append_getElem HO.out.2.2.2, List.map_append, HO.out.2.1]
          rfl
        have s4 : dgs ((bl s).take (i + 1)) = true := by
          rw [dgs_take HO.out.2.2.2, hdg.out, HO.out.2.1]
          simp [hd1, hd2]
        have HS : Hid _ := And.intro s1 (And.intro s2 (And.intro s3 s4))
        clear s1 s2 s3 s4
        go_wp2_with fail
        go_roundg m
        case measure => omega
        case rel => exact ⟨i + 1, _, by simp, by omega, HS.out.2.1, by show _ = _; rw [List.length_set]; exact hol.out, HS.out.1, HS.out.2.2.1, HS.out.2.2.2⟩
      · have hno : dgs (bl s) = false := dgs_no HO.out.2.2.2 (by rw [HO.out.2.1]; exact hd)
        have HN : Hid _ := hno
        clear hno
        by_cases hd1 : ((s[i]'hi).toNat : Int) < 48
        · clear hd
          go_wp2_with fail
          go_ret2
          exact DgP.bad HN.out hbr.out
        · have hd2 : 57 < ((s[i]'hi).toNat : Int) := by omega
          clear hd
          go_wp2_with fail
          go_ret2
          exact DgP.bad HN.out hbr.out
    · obtain rfl : i = s.size := by omega
      have e1 : ol = (bl s).map (· - 48) := by
        have := htk.out
        rw [List.take_of_length_le (by rw [hol.out]; omega), List.take_of_length_le (by rw [HLN.out]; omega)] at this
        exact this
      have e2 : dgs (bl s) = true := by
        have := hdg.out
        rwa [List.take_of_length_le (by rw [HLN.out]; omega)] at this
      have HF : Hid _ := And.intro hO (And.intro e1 e2)
      clear hO e1 e2
      go_wp2_with fail
      go_ret2
      exact DgP.good HF.out.2.2 hbr.out HF.out.1 HF.out.2.1 HLN.out.symm (by rw [HLN.out]; exact hs)
end Go.Proofs.YtgaegajcejpmdaaGreatDoor.Dc
