/- Joined: HK21s, HK21m, HK22, HK23, HK24. -/
import Derived.Test.YtgaegajcejpmdaaGreatDoorHJ19
import Derived.Test.YtgaegajcejpmdaaGreatDoorHJ21
import Derived.Laws.Tables
import Derived.Laws.CopyRow
import Derived.Deep.MidRow
import Derived.Deep.DeepCutAuto
import Derived.Test.YtgaegajcejpmdaaGreatDoorHJ20
import Derived.Test.YtgaegajcejpmdaaGreatDoorHDcD8
namespace Go.Proofs.YtgaegajcejpmdaaGreatDoor
open Go.RowKit
set_option linter.unusedVariables false
set_option linter.unusedSimpArgs false

set_option maxRecDepth 100000 in
set_option maxHeartbeats 3200000 in
theorem readS_ok {q : Dt.Sp} (s : ByteArray) (w : World) (hs : s.size ≤ 100000) (hq : Dt.prP (Dt.bl s) = some q) : Calls Tryz.prog 37 #[.int .i64 32, .string s] w (RdG (KV 32 z0 q) true w) := by
  have hpa := fun W => Dt.span_k s W (by unfold maxLen; omega)
  rw [hq] at hpa
  obtain ⟨qo, qs, qn⟩ := q
  have hpr := fun W => prim_k 32 W
  have e32 : prS 32 = 32 := rfl
  rw [e32] at hpr
  have hbx := BX.new w 40 [.int .i64 32, .string ⟨#[]⟩, .bool false, .slice none 0 0, .int .i64 0, .int .i64 0, .int .i64 0, .int .i64 0, .int .i64 0, .int .i64 0, .int .i64 0, .bool false, .int .i64 0, .int .i64 0, .int .i64 0, .int .i64 0]
  have HX : Hid _ := hbx
  clear hbx hs hq
  go_enter Tryz.func37, Tryz.ntmps37
  go_wp2_with (go_at_call 15; refine (hpr _).mono ?_; rintro e w1 ⟨rfl, hw1⟩; have hw2 := hw1.symm; clear hw1; subst hw2)
  refine (hpa _).mono ?_
  rintro e w2 ⟨rfl, hb2⟩
  have hbx2 := HX.out.below hb2
  obtain ⟨g0, g1, g2, g3, g4, g5, g6, g7, g8, g9, g10, g11, g12, g13, g14, g15⟩ := c16 hbx2.blk
  obtain ⟨f0, f1, f2, f3, f4, f5, f6, f7, f8, f9, f10, f11, f12, f13, f14, f15⟩ := f16 hbx2.blk
  have hbx3 := (((hbx2.set 13 (.int .i64 qo)).set 14 (.int .i64 qs)).set 15 (.int .i64 qn))
  have HX3 : Hid _ := hbx3.of
  clear hbx3 hbx2 hpa hpr HX hb2
  simp only [Option.getD_some, Option.getD_none, Option.isSome_some, Option.isSome_none, if_true, Bool.false_eq_true, if_false]
  go_upto_region 16 with fail
  clear g0 g1 g2 g3 g4 g5 g6 g7 g8 g9 g10 g11 g12 g13 g14 g15 f0 f1 f2 f3 f4 f5 f6 f7 f8 f9 f10 f11 f12 f13 f14 f15
  generalize (((w2.setCell ⟨w.heap.size, 13, none⟩ (.int .i64 qo)).setCell ⟨w.heap.size, 14, none⟩ (.int .i64 qs)).setCell ⟨w.heap.size, 15, none⟩ (.int .i64 qn)) = W3 at *
  have hblk : W3.heap[w.heap.size]? = some (.cells #[.int .i64 32, .string ⟨#[]⟩, .bool false, .slice none 0 0, .int .i64 0, .int .i64 0, .int .i64 0, .int .i64 0, .int .i64 0, .int .i64 0, .int .i64 0, .bool false, .int .i64 0, .int .i64 qo, .int .i64 qs, .int .i64 qn] 40 (0, 0)) := HX3.out.blk
  have HY : Hid _ := And.intro HX3.out.bel hblk
  clear HX3
  go_wp2_with (first | (refine wpList_load_row rfl 40 _ rfl w.heap.size rfl 40 _ (0, 0) _ hblk Tryz.underlying40 rfl (by kernel_rfl) ?_) | (refine wpList_store_row rfl 40 _ _ rfl w.heap.size _ rfl rfl 40 _ hblk (by kernel_rfl) rfl (by simp [Value.oneCell']) ?_; rw [setRow_self _ _ _ _ _ hblk]))
  exact bodyPost_ret (v := .tuple #[vlV 32 ⟨#[]⟩ false (.slice none 0 0) 0 z0 ⟨qo, qs, qn⟩, .bool true]) (by refine (res2 (X := w.heap.size) Tryz.results37 ?_ HY.out.2 rfl).trans ?_ <;> rfl) rfl ⟨HY.out.1, _, _, _, _, [], _, z0, ⟨qo, qs, qn⟩, rfl, btr0, fun _ => ⟨rfl, rfl, rfl, rfl, rfl, rfl, rfl⟩⟩
set_option maxRecDepth 100000 in
set_option maxHeartbeats 3200000 in
theorem readS_no (s : ByteArray) (w : World) (hs : s.size ≤ 100000) (hq : Dt.prP (Dt.bl s) = none) : Calls Tryz.prog 37 #[.int .i64 32, .string s] w (RdG (fun _ _ _ _ _ _ _ => True) false w) := by
  have hpa := fun W => Dt.span_k s W (by unfold maxLen; omega)
  rw [hq] at hpa
  have hpr := fun W => prim_k 32 W
  have e32 : prS 32 = 32 := rfl
  rw [e32] at hpr
  have hbx := BX.new w 40 [.int .i64 32, .string ⟨#[]⟩, .bool false, .slice none 0 0, .int .i64 0, .int .i64 0, .int .i64 0, .int .i64 0, .int .i64 0, .int .i64 0, .int .i64 0, .bool false, .int .i64 0, .int .i64 0, .int .i64 0, .int .i64 0]
  have HX : Hid _ := hbx
  clear hbx hs hq
  go_enter Tryz.func37, Tryz.ntmps37
  go_wp2_with (go_at_call 15; refine (hpr _).mono ?_; rintro e w1 ⟨rfl, hw1⟩; have hw2 := hw1.symm; clear hw1; subst hw2)
  refine (hpa _).mono ?_
  rintro e w2 ⟨rfl, hb2⟩
  have hbx2 := HX.out.below hb2
  obtain ⟨g0, g1, g2, g3, g4, g5, g6, g7, g8, g9, g10, g11, g12, g13, g14, g15⟩ := c16 hbx2.blk
  obtain ⟨f0, f1, f2, f3, f4, f5, f6, f7, f8, f9, f10, f11, f12, f13, f14, f15⟩ := f16 hbx2.blk
  have hbx3 := (((hbx2.set 13 (.int .i64 0)).set 14 (.int .i64 0)).set 15 (.int .i64 0))
  have HX3 : Hid _ := hbx3.of
  clear hbx3 hbx2 hpa hpr HX hb2
  simp only [Option.getD_some, Option.getD_none, Option.isSome_some, Option.isSome_none, if_true, Bool.false_eq_true, if_false]
  go_upto_region 16 with fail
  clear g0 g1 g2 g3 g4 g5 g6 g7 g8 g9 g10 g11 g12 g13 g14 g15 f0 f1 f2 f3 f4 f5 f6 f7 f8 f9 f10 f11 f12 f13 f14 f15
  generalize (((w2.setCell ⟨w.heap.size, 13, none⟩ (.int .i64 0)).setCell ⟨w.heap.size, 14, none⟩ (.int .i64 0)).setCell ⟨w.heap.size, 15, none⟩ (.int .i64 0)) = W3 at *
  have hblk : W3.heap[w.heap.size]? = some (.cells #[.int .i64 32, .string ⟨#[]⟩, .bool false, .slice none 0 0, .int .i64 0, .int .i64 0, .int .i64 0, .int .i64 0, .int .i64 0, .int .i64 0, .int .i64 0, .bool false, .int .i64 0, .int .i64 0, .int .i64 0, .int .i64 0] 40 (0, 0)) := HX3.out.blk
  have HY : Hid _ := And.intro HX3.out.bel hblk
  clear HX3
  go_wp2_with (first | (refine wpList_load_row rfl 40 _ rfl w.heap.size rfl 40 _ (0, 0) _ hblk Tryz.underlying40 rfl (by kernel_rfl) ?_) | (refine wpList_store_row rfl 40 _ _ rfl w.heap.size _ rfl rfl 40 _ hblk (by kernel_rfl) rfl (by simp [Value.oneCell']) ?_; rw [setRow_self _ _ _ _ _ hblk]))
  exact bodyPost_ret (v := .tuple #[vlV 32 ⟨#[]⟩ false (.slice none 0 0) 0 z0 sp0, .bool false]) (by refine (res2 (X := w.heap.size) Tryz.results37 ?_ HY.out.2 rfl).trans ?_ <;> rfl) rfl ⟨HY.out.1, _, _, _, _, [], _, z0, sp0, rfl, btr0, fun _ => trivial⟩
end Go.Proofs.YtgaegajcejpmdaaGreatDoor
namespace Go.Proofs.YtgaegajcejpmdaaGreatDoor
open Go.RowKit
set_option linter.unusedVariables false
set_option linter.unusedSimpArgs false

set_option maxRecDepth 100000 in
set_option maxHeartbeats 3200000 in
theorem readM_ok {m : Dt.Mo} (k : Int) (s : ByteArray) (w : World) (hk0 : 24 ≤ k) (hk1 : k ≤ 31) (hs : s.size ≤ 100000) (hq : Dt.prM (k - 24 + 1) (Dt.bl s) = some m) : Calls Tryz.prog 37 #[.int .i64 k, .string s] w (RdG (KV k m sp0) true w) := by
  have hpa := fun W => Dt.parse_k (k - 24 + 1) s W (by unfold maxLen; omega) (by omega) (by omega)
  rw [hq] at hpa
  obtain ⟨mk, my, mm, md, ms, mn, mhz, mz⟩ := m
  have hpr := fun W => prim_k k W
  rw [pr24 hk0 hk1] at hpr
  have f1 : (k == 1) = false := by simp; omega
  have f9 : (k == 9) = false := by simp; omega
  have f10 : (k == 10) = false := by simp; omega
  have f32 : (k == 32) = false := by simp; omega
  have hbx := BX.new w 40 [.int .i64 k, .string ⟨#[]⟩, .bool false, .slice none 0 0, .int .i64 0, .int .i64 0, .int .i64 0, .int .i64 0, .int .i64 0, .int .i64 0, .int .i64 0, .bool false, .int .i64 0, .int .i64 0, .int .i64 0, .int .i64 0]
  have HX : Hid _ := hbx
  clear hbx hs hq
  go_enter Tryz.func37, Tryz.ntmps37
  go_wp2_with (go_at_call 15; refine (hpr _).mono ?_; rintro e w1 ⟨rfl, hw1⟩; have hw2 := hw1.symm; clear hw1; subst hw2)
  refine (hpa _).mono ?_
  rintro e w2 ⟨rfl, hb2⟩
  have hbx2 := HX.out.below hb2
  obtain ⟨g0, g1, g2, g3, g4, g5, g6, g7, g8, g9, g10, g11, g12, g13, g14, g15⟩ := c16 hbx2.blk
  obtain ⟨f0, f1, f2, f3, f4, f5, f6, f7, f8, f9, f10, f11, f12, f13, f14, f15⟩ := f16 hbx2.blk
  have hbx3 := ((((((((hbx2.set 5 (.int .i64 mk)).set 6 (.int .i64 my)).set 7 (.int .i64 mm)).set 8 (.int .i64 md)).set 9 (.int .i64 ms)).set 10 (.int .i64 mn)).set 11 (.bool mhz)).set 12 (.int .i64 mz))
  have HX3 : Hid _ := hbx3.of
  clear hbx3 hbx2 hpa hpr HX hb2
  simp only [Option.getD_some, Option.getD_none, Option.isSome_some, Option.isSome_none, if_true, Bool.false_eq_true, if_false]
  go_upto_region 16 with fail
  clear g0 g1 g2 g3 g4 g5 g6 g7 g8 g9 g10 g11 g12 g13 g14 g15 f0 f1 f2 f3 f4 f5 f6 f7 f8 f9 f10 f11 f12 f13 f14 f15
  generalize ((((((((w2.setCell ⟨w.heap.size, 5, none⟩ (.int .i64 mk)).setCell ⟨w.heap.size, 6, none⟩ (.int .i64 my)).setCell ⟨w.heap.size, 7, none⟩ (.int .i64 mm)).setCell ⟨w.heap.size, 8, none⟩ (.int .i64 md)).setCell ⟨w.heap.size, 9, none⟩ (.int .i64 ms)).setCell ⟨w.heap.size, 10, none⟩ (.int .i64 mn)).setCell ⟨w.heap.size, 11, none⟩ (.bool mhz)).setCell ⟨w.heap.size, 12, none⟩ (.int .i64 mz)) = W3 at *
  have hblk : W3.heap[w.heap.size]? = some (.cells #[.int .i64 k, .string ⟨#[]⟩, .bool false, .slice none 0 0, .int .i64 0, .int .i64 mk, .int .i64 my, .int .i64 mm, .int .i64 md, .int .i64 ms, .int .i64 mn, .bool mhz, .int .i64 mz, .int .i64 0, .int .i64 0, .int .i64 0] 40 (0, 0)) := HX3.out.blk
  have HY : Hid _ := And.intro HX3.out.bel hblk
  clear HX3
  go_wp2_with (first | (refine wpList_load_row rfl 40 _ rfl w.heap.size rfl 40 _ (0, 0) _ hblk Tryz.underlying40 rfl (by kernel_rfl) ?_) | (refine wpList_store_row rfl 40 _ _ rfl w.heap.size _ rfl rfl 40 _ hblk (by kernel_rfl) rfl (by simp [Value.oneCell']) ?_; rw [setRow_self _ _ _ _ _ hblk]))
  exact bodyPost_ret (v := .tuple #[vlV k ⟨#[]⟩ false (.slice none 0 0) 0 ⟨mk, my, mm, md, ms, mn, mhz, mz⟩ sp0, .bool true]) (by refine (res2 (X := w.heap.size) Tryz.results37 ?_ HY.out.2 rfl).trans ?_ <;> rfl) rfl ⟨HY.out.1, _, _, _, _, [], _, ⟨mk, my, mm, md, ms, mn, mhz, mz⟩, sp0, rfl, btr0, fun _ => ⟨rfl, rfl, rfl, rfl, rfl, rfl, rfl⟩⟩
set_option maxRecDepth 100000 in
set_option maxHeartbeats 3200000 in
theorem readM_no (k : Int) (s : ByteArray) (w : World) (hk0 : 24 ≤ k) (hk1 : k ≤ 31) (hs : s.size ≤ 100000) (hq : Dt.prM (k - 24 + 1) (Dt.bl s) = none) : Calls Tryz.prog 37 #[.int .i64 k, .string s] w (RdG (fun _ _ _ _ _ _ _ => True) false w) := by
  have hpa := fun W => Dt.parse_k (k - 24 + 1) s W (by unfold maxLen; omega) (by omega) (by omega)
  rw [hq] at hpa
  have hpr := fun W => prim_k k W
  rw [pr24 hk0 hk1] at hpr
  have f1 : (k == 1) = false := by simp; omega
  have f9 : (k == 9) = false := by simp; omega
  have f10 : (k == 10) = false := by simp; omega
  have f32 : (k == 32) = false := by simp; omega
  have hbx := BX.new w 40 [.int .i64 k, .string ⟨#[]⟩, .bool false, .slice none 0 0, .int .i64 0, .int .i64 0, .int .i64 0, .int .i64 0, .int .i64 0, .int .i64 0, .int .i64 0, .bool false, .int .i64 0, .int .i64 0, .int .i64 0, .int .i64 0]
  have HX : Hid _ := hbx
  clear hbx hs hq
  go_enter Tryz.func37, Tryz.ntmps37
  go_wp2_with (go_at_call 15; refine (hpr _).mono ?_; rintro e w1 ⟨rfl, hw1⟩; have hw2 := hw1.symm; clear hw1; subst hw2)
  refine (hpa _).mono ?_
  rintro e w2 ⟨rfl, hb2⟩
  have hbx2 := HX.out.below hb2
  obtain ⟨g0, g1, g2, g3, g4, g5, g6, g7, g8, g9, g10, g11, g12, g13, g14, g15⟩ := c16 hbx2.blk
  obtain ⟨f0, f1, f2, f3, f4, f5, f6, f7, f8, f9, f10, f11, f12, f13, f14, f15⟩ := f16 hbx2.blk
  have hbx3 := ((((((((hbx2.set 5 (.int .i64 0)).set 6 (.int .i64 0)).set 7 (.int .i64 0)).set 8 (.int .i64 0)).set 9 (.int .i64 0)).set 10 (.int .i64 0)).set 11 (.bool false)).set 12 (.int .i64 0))
  have HX3 : Hid _ := hbx3.of
  clear hbx3 hbx2 hpa hpr HX hb2
  simp only [Option.getD_some, Option.getD_none, Option.isSome_some, Option.isSome_none, if_true, Bool.false_eq_true, if_false]
  go_upto_region 16 with fail
  clear g0 g1 g2 g3 g4 g5 g6 g7 g8 g9 g10 g11 g12 g13 g14 g15 f0 f1 f2 f3 f4 f5 f6 f7 f8 f9 f10 f11 f12 f13 f14 f15
  generalize ((((((((w2.setCell ⟨w.heap.size, 5, none⟩ (.int .i64 0)).setCell ⟨w.heap.size, 6, none⟩ (.int .i64 0)).setCell ⟨w.heap.size, 7, none⟩ (.int .i64 0)).setCell ⟨w.heap.size, 8, none⟩ (.int .i64 0)).setCell ⟨w.heap.size, 9, none⟩ (.int .i64 0)).setCell ⟨w.heap.size, 10, none⟩ (.int .i64 0)).setCell ⟨w.heap.size, 11, none⟩ (.bool false)).setCell ⟨w.heap.size, 12, none⟩ (.int .i64 0)) = W3 at *
  have hblk : W3.heap[w.heap.size]? = some (.cells #[.int .i64 k, .string ⟨#[]⟩, .bool false, .slice none 0 0, .int .i64 0, .int .i64 0, .int .i64 0, .int .i64 0, .int .i64 0, .int .i64 0, .int .i64 0, .bool false, .int .i64 0, .int .i64 0, .int .i64 0, .int .i64 0] 40 (0, 0)) := HX3.out.blk
  have HY : Hid _ := And.intro HX3.out.bel hblk
  clear HX3
  go_wp2_with (first | (refine wpList_load_row rfl 40 _ rfl w.heap.size rfl 40 _ (0, 0) _ hblk Tryz.underlying40 rfl (by kernel_rfl) ?_) | (refine wpList_store_row rfl 40 _ _ rfl w.heap.size _ rfl rfl 40 _ hblk (by kernel_rfl) rfl (by simp [Value.oneCell']) ?_; rw [setRow_self _ _ _ _ _ hblk]))
  exact bodyPost_ret (v := .tuple #[vlV k ⟨#[]⟩ false (.slice none 0 0) 0 z0 sp0, .bool false]) (by refine (res2 (X := w.heap.size) Tryz.results37 ?_ HY.out.2 rfl).trans ?_ <;> rfl) rfl ⟨HY.out.1, _, _, _, _, [], _, z0, sp0, rfl, btr0, fun _ => trivial⟩
end Go.Proofs.YtgaegajcejpmdaaGreatDoor
namespace Go.Proofs.YtgaegajcejpmdaaGreatDoor
open Go.RowKit
set_option linter.unusedVariables false
set_option linter.unusedSimpArgs false

/-- A value. -/
inductive Kd where
  | txt (p : Int) (t : ByteArray)
  | num (n : Dc.Nm)
  | mom (k : Int) (m : Dt.Mo)
  | spn (q : Dt.Sp)
def Kd.pr : Kd → Int
  | .txt p _ => p
  | .num _ => 10
  | .mom k _ => k
  | .spn _ => 32
def Kd.tx : Kd → ByteArray
  | .txt _ t => t
  | _ => ⟨#[]⟩
def Kd.nm : Kd → Dc.Nm
  | .num n => n
  | _ => (false, [], 0)
def Kd.mo : Kd → Dt.Mo
  | .mom _ m => m
  | _ => z0
def Kd.sp : Kd → Dt.Sp
  | .spn q => q
  | _ => sp0
/-- What is read of a text whose blanks are put. -/
def rdS (k : Int) (t : ByteArray) : Option Kd :=
  if k ≤ 8 then (if nmdB k (Ch.bl t) = true then some (.txt 1 t) else none)
  else if k = 9 then (trS t).map (.txt 9)
  else if k ≤ 23 then (match Dc.parS (Dc.bl t) with
    | .ok n => if cntB k (Dc.bl t) n = true then some (.num n) else none
    | .error _ => none)
  else if k = 32 then (Dt.prP (Dt.bl t)).map .spn
  else (Dt.prM (k - 24 + 1) (Dt.bl t)).map (.mom k)
def psS (k : Int) (s : ByteArray) : Option Kd := rdS k (Ch.spc s (whS k))
/-- A value in memory. -/
def VlA (w : World) (v : Value) (d : Kd) : Prop := ∃ a c, v = vlV d.pr d.tx d.nm.1 (.slice a d.nm.2.1.length c) d.nm.2.2 d.mo d.sp ∧ Dc.BtR w (.slice a d.nm.2.1.length c) d.nm.2.1
theorem VlA.below {w w' : World} {v : Value} {d : Kd} (h : VlA w v d) (hb : Below w.heap.size w w') : VlA w' v d := by
  obtain ⟨a, c, e, hbt⟩ := h
  exact ⟨a, c, e, hbt.below hb⟩
/-- What Parse leaves, of a kind that there is. -/
def PsA (o : Option Kd) (w : World) (e : Ending) (w' : World) : Prop :=
  Below w.heap.size w w' ∧ match o with
  | some d => ∃ v, e = .returned (.tuple #[v, .int .i64 0]) ∧ VlA w' v d
  | none => e = .returned (.tuple #[vlV 0 ⟨#[]⟩ false (.slice none 0 0) 0 z0 sp0, .int .i64 2])
theorem psg_no {KK : Int → ByteArray → Bool → List Int → Int → Dt.Mo → Dt.Sp → Prop} {w w' : World} {e : Ending} (h : PsG KK false w e w') : PsA none w e w' := ⟨h.1, h.2.2 rfl⟩
theorem psg_yes {d : Kd} {KK : Int → ByteArray → Bool → List Int → Int → Dt.Mo → Dt.Sp → Prop} {w w' : World} {e : Ending} (hk : ∀ p tx ng l sc m q, KK p tx ng l sc m q → p = d.pr ∧ tx = d.tx ∧ ng = d.nm.1 ∧ l = d.nm.2.1 ∧ sc = d.nm.2.2 ∧ m = d.mo ∧ q = d.sp) (h : PsG KK true w e w') : PsA (some d) w e w' := by
  obtain ⟨p, tx, ng, sl, l, sc, m, q, rfl, hbt, hkk⟩ := h.2.1 rfl
  obtain ⟨rfl, rfl, rfl, rfl, rfl, rfl, rfl⟩ := hk _ _ _ _ _ _ _ hkk
  obtain ⟨a, c, rfl, _⟩ := hbt.form
  exact ⟨h.1, _, rfl, a, c, rfl, hbt⟩
theorem parse_a (k : Int) (s : ByteArray) (w : World) (hk : isK k = true) (hs : s.size ≤ 100000) (hw : Lw w) : Calls Tryz.prog 21 #[.int .i64 k, .string s] w (PsA (psS k s) w) := by
  have hk' := isK_iff.1 hk
  have hs2 : (Ch.spc s (whS k)).size ≤ 100000 := Nat.le_trans (spc_size s _) hs
  unfold psS rdS
  by_cases h8 : k ≤ 8
  · rw [if_pos h8]
    have h := parse_of (KK := KT 1 (Ch.spc s (whS k))) k s w hk hs (fun W hW => readT k _ W hk'.1 h8 hs2)
    cases hb : nmdB k (Ch.bl (Ch.spc s (whS k))) with
    | true => rw [hb] at h; exact h.mono fun e w' q => psg_yes (d := .txt 1 _) (fun p tx ng l sc m q hq => hq) q
    | false => rw [hb] at h; exact h.mono fun e w' q => psg_no q
  · rw [if_neg h8]
    by_cases h9 : k = 9
    · subst h9
      rw [if_pos rfl]
      have h := parse_of (KK := KT 9 ((trS (Ch.spc s (whS 9))).getD ⟨#[]⟩)) 9 s w hk hs (fun W hW => readB _ W)
      cases hb : trS (Ch.spc s (whS 9)) with
      | some t => rw [hb] at h; exact h.mono fun e w' q => psg_yes (d := .txt 9 t) (fun p tx ng l sc m q hq => hq) q
      | none => rw [hb] at h; exact h.mono fun e w' q => psg_no q
    · rw [if_neg h9]
      by_cases h23 : k ≤ 23
      · rw [if_pos h23]
        have e3 : whS k = 3 := wh3 (by omega) (by omega)
        rw [e3] at hs2 ⊢
        cases hq : Dc.parS (Dc.bl (Ch.spc s 3)) with
        | error x => exact (parseNe k s w (by omega) h23 hs hs2 hq).mono fun e w' q => psg_no q
        | ok n =>
          have h := parseN k s w (by omega) h23 hs hs2 hw hq
          dsimp only
          cases hb : cntB k (Dc.bl (Ch.spc s 3)) n with
          | true => rw [hb] at h; exact h.mono fun e w' q => psg_yes (d := .num n) (fun p tx ng l sc m q hq => hq) q
          | false => rw [hb] at h; exact h.mono fun e w' q => psg_no q
      · rw [if_neg h23]
        by_cases h32 : k = 32
        · subst h32
          rw [if_pos rfl]
          cases hq : Dt.prP (Dt.bl (Ch.spc s (whS 32))) with
          | some q => exact (parse_of (KK := KV 32 z0 q) 32 s w hk hs (fun W hW => readS_ok _ W hs2 hq)).mono fun e w' h => psg_yes (d := .spn q) (fun p tx ng l sc m q hq => hq) h
          | none => exact (parse_of 32 s w hk hs (fun W hW => readS_no _ W hs2 hq)).mono fun e w' h => psg_no h
        · rw [if_neg h32]
          cases hq : Dt.prM (k - 24 + 1) (Dt.bl (Ch.spc s (whS k))) with
          | some m => exact (parse_of (KK := KV k m sp0) k s w hk hs (fun W hW => readM_ok k _ W (by omega) (by omega) hs2 hq)).mono fun e w' h => psg_yes (d := .mom k m) (fun p tx ng l sc m q hq => hq) h
          | none => exact (parse_of k s w hk hs (fun W hW => readM_no k _ W (by omega) (by omega) hs2 hq)).mono fun e w' h => psg_no h
end Go.Proofs.YtgaegajcejpmdaaGreatDoor
namespace Go.Proofs.YtgaegajcejpmdaaGreatDoor.Dt
set_option linter.unusedVariables false
theorem Told.l {k : Int} {a : Mo} (h : Told k a) : MoL a := by
  have hy0 := h.y0
  have hy1 := h.y1
  have hz0 := h.z0
  have hz1 := h.z1
  exact ⟨h.ok.b (by omega) (by omega), h.ok.n0, h.ok.n1, by omega, by omega⟩
theorem sp_T {l : List Int} {p : Sp} (h : prP l = some p) : SpT p := by
  unfold prP at h
  dsimp only at h
  obtain ⟨l0, h0, h⟩ := Option.bind_eq_some_iff.1 h
  obtain ⟨y, hy, h⟩ := Option.bind_eq_some_iff.1 h
  obtain ⟨o, ho, h⟩ := Option.bind_eq_some_iff.1 h
  obtain ⟨d, hd, h⟩ := Option.bind_eq_some_iff.1 h
  obtain ⟨t, ht, h⟩ := Option.map_eq_some_iff.1 h
  have h1 := pt_in hy
  have h2 := pt_in ho
  have h3 := pt_in hd
  have h4 : 0 ≤ t.1 ∧ t.1 ≤ 100000000000000 ∧ 0 ≤ t.2 ∧ t.2 < 1000000000 := by
    split at ht
    · exact tm_in ht
    · split at ht
      · obtain rfl := Option.some.inj ht
        simp
      · simp at ht
  split at h
  · subst h
    constructor <;> dsimp only <;> omega
  · subst h
    constructor <;> dsimp only <;> omega
end Go.Proofs.YtgaegajcejpmdaaGreatDoor.Dt
namespace Go.Proofs.YtgaegajcejpmdaaGreatDoor
open Go.RowKit
set_option linter.unusedVariables false
set_option linter.unusedSimpArgs false

/-- A value that may be. -/
def KdOk : Kd → Prop
  | .txt p t => p = 1 ∨ p = 9
  | .num n => Dc.CN n ∧ n.2.1.length ≤ 4096
  | .mom k m => 24 ≤ k ∧ k ≤ 31 ∧ Dt.MoL m
  | .spn q => Dt.SpT q
theorem ps_ok {k : Int} {s : ByteArray} {d : Kd} (hk : isK k = true) (h : psS k s = some d) : KdOk d := by
  have hk' := isK_iff.1 hk
  unfold psS rdS at h
  by_cases h8 : k ≤ 8
  · rw [if_pos h8] at h
    split at h
    · cases h; exact .inl rfl
    · cases h
  · rw [if_neg h8] at h
    by_cases h9 : k = 9
    · rw [if_pos h9] at h
      obtain ⟨t, _, rfl⟩ := Option.map_eq_some_iff.1 h
      exact .inr rfl
    · rw [if_neg h9] at h
      by_cases h23 : k ≤ 23
      · rw [if_pos h23] at h
        cases hq : Dc.parS (Dc.bl (Ch.spc s (whS k))) with
        | error x => rw [hq] at h; cases h
        | ok n =>
          rw [hq] at h
          dsimp only at h
          split at h
          · cases h; exact ⟨(Dc.par_ok hq).1, (Dc.par_ok hq).2.2.1⟩
          · cases h
      · rw [if_neg h23] at h
        by_cases h32 : k = 32
        · rw [if_pos h32] at h
          obtain ⟨q, hq, rfl⟩ := Option.map_eq_some_iff.1 h
          exact Dt.sp_T hq
        · rw [if_neg h32] at h
          obtain ⟨m, hm, rfl⟩ := Option.map_eq_some_iff.1 h
          exact ⟨by omega, by omega, (Dt.pr_told hm).l⟩
def cmpD : Kd → Kd → Int
  | .txt p t, .txt p' t' => if p = p' then (if (t.toList == t'.toList) = true then 0 else 2) else 2
  | .num a, .num b => Dc.cmpS a b
  | .mom k m, .mom k' m' => if k = k' then Dt.cmpM m m' else 2
  | .spn a, .spn b => Dt.cmpP a b
  | _, _ => 2
theorem cmp_pr {a b : Kd} (ha : KdOk a) (hb : KdOk b) (h : a.pr ≠ b.pr) : cmpD a b = 2 := by
  cases a <;> cases b <;> simp_all [cmpD, Kd.pr]
theorem same_c {a b : Kd} (ha : KdOk a) (hb : KdOk b) (h : a.pr = b.pr) : (∃ p t t', a = .txt p t ∧ b = .txt p t') ∨ (∃ n n', a = .num n ∧ b = .num n') ∨ (∃ k m m', a = .mom k m ∧ b = .mom k m') ∨ (∃ q q', a = .spn q ∧ b = .spn q') := by
  cases a with
  | txt p t =>
    cases b with
    | txt p' t' => exact .inl ⟨p, t, t', rfl, by rw [show p = p' from h]⟩
    | num n => exfalso; have h' : p = 10 := h; have ha' : p = 1 ∨ p = 9 := ha; omega
    | mom k m => exfalso; have h' : p = k := h; have ha' : p = 1 ∨ p = 9 := ha; have hb' : 24 ≤ k ∧ k ≤ 31 ∧ _ := hb; omega
    | spn q => exfalso; have h' : p = 32 := h; have ha' : p = 1 ∨ p = 9 := ha; omega
  | num n =>
    cases b with
    | txt p t => exfalso; have h' : 10 = p := h; have hb' : p = 1 ∨ p = 9 := hb; omega
    | num n' => exact .inr (.inl ⟨n, n', rfl, rfl⟩)
    | mom k m => exfalso; have h' : 10 = k := h; have hb' : 24 ≤ k ∧ k ≤ 31 ∧ _ := hb; omega
    | spn q => exfalso; have h' : (10 : Int) = 32 := h; omega
  | mom k m =>
    have ha' : 24 ≤ k ∧ k ≤ 31 ∧ _ := ha
    cases b with
    | txt p t => exfalso; have h' : k = p := h; have hb' : p = 1 ∨ p = 9 := hb; omega
    | num n => exfalso; have h' : k = 10 := h; omega
    | mom k' m' => exact .inr (.inr (.inl ⟨k, m, m', rfl, by rw [show k = k' from h]⟩))
    | spn q => exfalso; have h' : k = 32 := h; omega
  | spn q =>
    cases b with
    | txt p t => exfalso; have h' : 32 = p := h; have hb' : p = 1 ∨ p = 9 := hb; omega
    | num n => exfalso; have h' : (32 : Int) = 10 := h; omega
    | mom k m => exfalso; have h' : 32 = k := h; have hb' : 24 ≤ k ∧ k ≤ 31 ∧ _ := hb; omega
    | spn q' => exact .inr (.inr (.inr ⟨q, q', rfl, rfl⟩))
end Go.Proofs.YtgaegajcejpmdaaGreatDoor
namespace Go.Proofs.YtgaegajcejpmdaaGreatDoor
open Go.RowKit
set_option linter.unusedVariables false
set_option linter.unusedSimpArgs false

theorem p_ne {p1 s1 : Int} {t1 : ByteArray} {g1 : Bool} {a1 : Option Addr} {b1 c1 : Nat} {m1 : Dt.Mo} {q1 : Dt.Sp} {p2 s2 : Int} {t2 : ByteArray} {g2 : Bool} {a2 : Option Addr} {b2 c2 : Nat} {m2 : Dt.Mo} {q2 : Dt.Sp} (h : p1 ≠ p2) (w : World) : Calls Tryz.prog 27 #[vlV p1 t1 g1 (.slice a1 b1 c1) s1 m1 q1, vlV p2 t2 g2 (.slice a2 b2 c2) s2 m2 q2] w fun e w' => e = .returned (.int .i64 2) ∧ Below w.heap.size w w' := by
  have hb0 : Below w.heap.size w ((w.alloc (.cells #[.int .i64 p1, .string t1, .bool g1, .slice a1 b1 c1, .int .i64 s1, .int .i64 m1.k, .int .i64 m1.y, .int .i64 m1.m, .int .i64 m1.d, .int .i64 m1.s, .int .i64 m1.n, .bool m1.hz, .int .i64 m1.z, .int .i64 q1.o, .int .i64 q1.s, .int .i64 q1.n] 40)).alloc (.cells #[.int .i64 p2, .string t2, .bool g2, .slice a2 b2 c2, .int .i64 s2, .int .i64 m2.k, .int .i64 m2.y, .int .i64 m2.m, .int .i64 m2.d, .int .i64 m2.s, .int .i64 m2.n, .bool m2.hz, .int .i64 m2.z, .int .i64 q2.o, .int .i64 q2.s, .int .i64 q2.n] 40)) := ((Below.refl _ _).alloc (Nat.le_refl _) _).alloc (Below.alloc (Below.refl w.heap.size w) (Nat.le_refl _) _).size _
  have HB : Hid _ := hb0
  clear hb0
  have hne : (p1 != p2) = true := by simpa using h
  have hne2 : (p1 == p2) = false := by simpa using h
  clear h
  go_enter Tryz.func27, Tryz.ntmps27
  go_wp2_with fail
  go_ret
  exact ⟨rfl, HB.out⟩
theorem p_t1y {s1 : Int} {t1 : ByteArray} {g1 : Bool} {a1 : Option Addr} {b1 c1 : Nat} {m1 : Dt.Mo} {q1 : Dt.Sp} {s2 : Int} {t2 : ByteArray} {g2 : Bool} {a2 : Option Addr} {b2 c2 : Nat} {m2 : Dt.Mo} {q2 : Dt.Sp} (h : (t1.toList == t2.toList) = true) (w : World) : Calls Tryz.prog 27 #[vlV 1 t1 g1 (.slice a1 b1 c1) s1 m1 q1, vlV 1 t2 g2 (.slice a2 b2 c2) s2 m2 q2] w fun e w' => e = .returned (.int .i64 0) ∧ Below w.heap.size w w' := by
  have hb0 : Below w.heap.size w ((w.alloc (.cells #[.int .i64 1, .string t1, .bool g1, .slice a1 b1 c1, .int .i64 s1, .int .i64 m1.k, .int .i64 m1.y, .int .i64 m1.m, .int .i64 m1.d, .int .i64 m1.s, .int .i64 m1.n, .bool m1.hz, .int .i64 m1.z, .int .i64 q1.o, .int .i64 q1.s, .int .i64 q1.n] 40)).alloc (.cells #[.int .i64 1, .string t2, .bool g2, .slice a2 b2 c2, .int .i64 s2, .int .i64 m2.k, .int .i64 m2.y, .int .i64 m2.m, .int .i64 m2.d, .int .i64 m2.s, .int .i64 m2.n, .bool m2.hz, .int .i64 m2.z, .int .i64 q2.o, .int .i64 q2.s, .int .i64 q2.n] 40)) := ((Below.refl _ _).alloc (Nat.le_refl _) _).alloc (Below.alloc (Below.refl w.heap.size w) (Nat.le_refl _) _).size _
  have HB : Hid _ := hb0
  clear hb0
  go_enter Tryz.func27, Tryz.ntmps27
  go_wp2_with fail
  go_ret
  exact ⟨rfl, HB.out⟩
theorem p_t1n {s1 : Int} {t1 : ByteArray} {g1 : Bool} {a1 : Option Addr} {b1 c1 : Nat} {m1 : Dt.Mo} {q1 : Dt.Sp} {s2 : Int} {t2 : ByteArray} {g2 : Bool} {a2 : Option Addr} {b2 c2 : Nat} {m2 : Dt.Mo} {q2 : Dt.Sp} (h : (t1.toList == t2.toList) = false) (w : World) : Calls Tryz.prog 27 #[vlV 1 t1 g1 (.slice a1 b1 c1) s1 m1 q1, vlV 1 t2 g2 (.slice a2 b2 c2) s2 m2 q2] w fun e w' => e = .returned (.int .i64 2) ∧ Below w.heap.size w w' := by
  have hb0 : Below w.heap.size w ((w.alloc (.cells #[.int .i64 1, .string t1, .bool g1, .slice a1 b1 c1, .int .i64 s1, .int .i64 m1.k, .int .i64 m1.y, .int .i64 m1.m, .int .i64 m1.d, .int .i64 m1.s, .int .i64 m1.n, .bool m1.hz, .int .i64 m1.z, .int .i64 q1.o, .int .i64 q1.s, .int .i64 q1.n] 40)).alloc (.cells #[.int .i64 1, .string t2, .bool g2, .slice a2 b2 c2, .int .i64 s2, .int .i64 m2.k, .int .i64 m2.y, .int .i64 m2.m, .int .i64 m2.d, .int .i64 m2.s, .int .i64 m2.n, .bool m2.hz, .int .i64 m2.z, .int .i64 q2.o, .int .i64 q2.s, .int .i64 q2.n] 40)) := ((Below.refl _ _).alloc (Nat.le_refl _) _).alloc (Below.alloc (Below.refl w.heap.size w) (Nat.le_refl _) _).size _
  have HB : Hid _ := hb0
  clear hb0
  go_enter Tryz.func27, Tryz.ntmps27
  go_wp2_with fail
  go_ret
  exact ⟨rfl, HB.out⟩
theorem p_t9y {s1 : Int} {t1 : ByteArray} {g1 : Bool} {a1 : Option Addr} {b1 c1 : Nat} {m1 : Dt.Mo} {q1 : Dt.Sp} {s2 : Int} {t2 : ByteArray} {g2 : Bool} {a2 : Option Addr} {b2 c2 : Nat} {m2 : Dt.Mo} {q2 : Dt.Sp} (h : (t1.toList == t2.toList) = true) (w : World) : Calls Tryz.prog 27 #[vlV 9 t1 g1 (.slice a1 b1 c1) s1 m1 q1, vlV 9 t2 g2 (.slice a2 b2 c2) s2 m2 q2] w fun e w' => e = .returned (.int .i64 0) ∧ Below w.heap.size w w' := by
  have hb0 : Below w.heap.size w ((w.alloc (.cells #[.int .i64 9, .string t1, .bool g1, .slice a1 b1 c1, .int .i64 s1, .int .i64 m1.k, .int .i64 m1.y, .int .i64 m1.m, .int .i64 m1.d, .int .i64 m1.s, .int .i64 m1.n, .bool m1.hz, .int .i64 m1.z, .int .i64 q1.o, .int .i64 q1.s, .int .i64 q1.n] 40)).alloc (.cells #[.int .i64 9, .string t2, .bool g2, .slice a2 b2 c2, .int .i64 s2, .int .i64 m2.k, .int .i64 m2.y, .int .i64 m2.m, .int .i64 m2.d, .int .i64 m2.s, .int .i64 m2.n, .bool m2.hz, .int .i64 m2.z, .int .i64 q2.o, .int .i64 q2.s, .int .i64 q2.n] 40)) := ((Below.refl _ _).alloc (Nat.le_refl _) _).alloc (Below.alloc (Below.refl w.heap.size w) (Nat.le_refl _) _).size _
  have HB : Hid _ := hb0
  clear hb0
  go_enter Tryz.func27, Tryz.ntmps27
  go_wp2_with fail
  go_ret
  exact ⟨rfl, HB.out⟩
theorem p_t9n {s1 : Int} {t1 : ByteArray} {g1 : Bool} {a1 : Option Addr} {b1 c1 : Nat} {m1 : Dt.Mo} {q1 : Dt.Sp} {s2 : Int} {t2 : ByteArray} {g2 : Bool} {a2 : Option Addr} {b2 c2 : Nat} {m2 : Dt.Mo} {q2 : Dt.Sp} (h : (t1.toList == t2.toList) = false) (w : World) : Calls Tryz.prog 27 #[vlV 9 t1 g1 (.slice a1 b1 c1) s1 m1 q1, vlV 9 t2 g2 (.slice a2 b2 c2) s2 m2 q2] w fun e w' => e = .returned (.int .i64 2) ∧ Below w.heap.size w w' := by
  have hb0 : Below w.heap.size w ((w.alloc (.cells #[.int .i64 9, .string t1, .bool g1, .slice a1 b1 c1, .int .i64 s1, .int .i64 m1.k, .int .i64 m1.y, .int .i64 m1.m, .int .i64 m1.d, .int .i64 m1.s, .int .i64 m1.n, .bool m1.hz, .int .i64 m1.z, .int .i64 q1.o, .int .i64 q1.s, .int .i64 q1.n] 40)).alloc (.cells #[.int .i64 9, .string t2, .bool g2, .slice a2 b2 c2, .int .i64 s2, .int .i64 m2.k, .int .i64 m2.y, .int .i64 m2.m, .int .i64 m2.d, .int .i64 m2.s, .int .i64 m2.n, .bool m2.hz, .int .i64 m2.z, .int .i64 q2.o, .int .i64 q2.s, .int .i64 q2.n] 40)) := ((Below.refl _ _).alloc (Nat.le_refl _) _).alloc (Below.alloc (Below.refl w.heap.size w) (Nat.le_refl _) _).size _
  have HB : Hid _ := hb0
  clear hb0
  go_enter Tryz.func27, Tryz.ntmps27
  go_wp2_with fail
  go_ret
  exact ⟨rfl, HB.out⟩
theorem p_num {n1 n2 : Dc.Nm} {a1 a2 : Option Addr} {c1 c2 : Nat} {t1 t2 : ByteArray} {m1 m2 : Dt.Mo} {q1 q2 : Dt.Sp} (w : World) (h1 : Dc.NmR w (.slice a1 n1.2.1.length c1) n1) (h2 : Dc.NmR w (.slice a2 n2.2.1.length c2) n2) : Calls Tryz.prog 27 #[vlV 10 t1 n1.1 (.slice a1 n1.2.1.length c1) n1.2.2 m1 q1, vlV 10 t2 n2.1 (.slice a2 n2.2.1.length c2) n2.2.2 m2 q2] w fun e w' => e = .returned (.int .i64 (Dc.cmpS n1 n2)) ∧ Below w.heap.size w w' := by
  have hb0 : Below w.heap.size w ((w.alloc (.cells #[.int .i64 10, .string t1, .bool n1.1, .slice a1 n1.2.1.length c1, .int .i64 n1.2.2, .int .i64 m1.k, .int .i64 m1.y, .int .i64 m1.m, .int .i64 m1.d, .int .i64 m1.s, .int .i64 m1.n, .bool m1.hz, .int .i64 m1.z, .int .i64 q1.o, .int .i64 q1.s, .int .i64 q1.n] 40)).alloc (.cells #[.int .i64 10, .string t2, .bool n2.1, .slice a2 n2.2.1.length c2, .int .i64 n2.2.2, .int .i64 m2.k, .int .i64 m2.y, .int .i64 m2.m, .int .i64 m2.d, .int .i64 m2.s, .int .i64 m2.n, .bool m2.hz, .int .i64 m2.z, .int .i64 q2.o, .int .i64 q2.s, .int .i64 q2.n] 40)) := ((Below.refl _ _).alloc (Nat.le_refl _) _).alloc (Below.alloc (Below.refl w.heap.size w) (Nat.le_refl _) _).size _
  have HB : Hid _ := hb0
  clear hb0
  have HN : Hid _ := And.intro (h1.below HB.out) (h2.below HB.out)
  clear h1 h2
  go_enter Tryz.func27, Tryz.ntmps27
  go_wp2_with (go_at_call 30; refine Calls.mono (Dc.cmp_p HN.out.1 HN.out.2) ?_; rintro e w9 ⟨rfl, hb9⟩)
  go_ret
  exact ⟨rfl, HB.out.trans (hb9.mono HB.out.size)⟩
set_option maxRecDepth 100000 in
set_option maxHeartbeats 3200000 in
theorem p_mom {p1 s1 : Int} {t1 : ByteArray} {g1 : Bool} {a1 : Option Addr} {b1 c1 : Nat} {m1 : Dt.Mo} {q1 : Dt.Sp} {s2 : Int} {t2 : ByteArray} {g2 : Bool} {a2 : Option Addr} {b2 c2 : Nat} {m2 : Dt.Mo} {q2 : Dt.Sp} (h0 : 24 ≤ p1) (h1 : p1 ≤ 31) (l1 : Dt.MoL m1) (l2 : Dt.MoL m2) (w : World) : Calls Tryz.prog 27 #[vlV p1 t1 g1 (.slice a1 b1 c1) s1 m1 q1, vlV p1 t2 g2 (.slice a2 b2 c2) s2 m2 q2] w fun e w' => e = .returned (.int .i64 (Dt.cmpM m1 m2)) ∧ Below w.heap.size w w' := by
  have HC : Hid _ := fun W => Dt.cmp_p m1 m2 W l1 l2
  clear l1 l2
  rcases (by omega : p1 = 24 ∨ p1 = 25 ∨ p1 = 26 ∨ p1 = 27 ∨ p1 = 28 ∨ p1 = 29 ∨ p1 = 30 ∨ p1 = 31) with rfl | rfl | rfl | rfl | rfl | rfl | rfl | rfl
  · clear h0 h1
    have hb0 : Below w.heap.size w ((w.alloc (.cells #[.int .i64 24, .string t1, .bool g1, .slice a1 b1 c1, .int .i64 s1, .int .i64 m1.k, .int .i64 m1.y, .int .i64 m1.m, .int .i64 m1.d, .int .i64 m1.s, .int .i64 m1.n, .bool m1.hz, .int .i64 m1.z, .int .i64 q1.o, .int .i64 q1.s, .int .i64 q1.n] 40)).alloc (.cells #[.int .i64 24, .string t2, .bool g2, .slice a2 b2 c2, .int .i64 s2, .int .i64 m2.k, .int .i64 m2.y, .int .i64 m2.m, .int .i64 m2.d, .int .i64 m2.s, .int .i64 m2.n, .bool m2.hz, .int .i64 m2.z, .int .i64 q2.o, .int .i64 q2.s, .int .i64 q2.n] 40)) := ((Below.refl _ _).alloc (Nat.le_refl _) _).alloc (Below.alloc (Below.refl w.heap.size w) (Nat.le_refl _) _).size _
    have HB : Hid _ := hb0
    clear hb0
    go_enter Tryz.func27, Tryz.ntmps27
    go_wp2_with (go_at_call 49; refine Calls.mono (HC.out _) ?_; rintro e w9 ⟨rfl, hb9⟩)
    go_ret
    exact ⟨rfl, HB.out.trans (hb9.mono HB.out.size)⟩
  · clear h0 h1
    have hb0 : Below w.heap.size w ((w.alloc (.cells #[.int .i64 25, .string t1, .bool g1, .slice a1 b1 c1, .int .i64 s1, .int .i64 m1.k, .int .i64 m1.y, .int .i64 m1.m, .int .i64 m1.d, .int .i64 m1.s, .int .i64 m1.n, .bool m1.hz, .int .i64 m1.z, .int .i64 q1.o, .int .i64 q1.s, .int .i64 q1.n] 40)).alloc (.cells #[.int .i64 25, .string t2, .bool g2, .slice a2 b2 c2, .int .i64 s2, .int .i64 m2.k, .int .i64 m2.y, .int .i64 m2.m, .int .i64 m2.d, .int .i64 m2.s, .int .i64 m2.n, .bool m2.hz, .int .i64 m2.z, .int .i64 q2.o, .int .i64 q2.s, .int .i64 q2.n] 40)) := ((Below.refl _ _).alloc (Nat.le_refl _) _).alloc (Below.alloc (Below.refl w.heap.size w) (Nat.le_refl _) _).size _
    have HB : Hid _ := hb0
    clear hb0
    go_enter Tryz.func27, Tryz.ntmps27
    go_wp2_with (go_at_call 49; refine Calls.mono (HC.out _) ?_; rintro e w9 ⟨rfl, hb9⟩)
    go_ret
    exact ⟨rfl, HB.out.trans (hb9.mono HB.out.size)⟩
  · clear h0 h1
    have hb0 : Below w.heap.size w ((w.alloc (.cells #[.int .i64 26, .string t1, .bool g1, .slice a1 b1 c1, .int .i64 s1, .int .i64 m1.k, .int .i64 m1.y, .int .i64 m1.m, .int .i64 m1.d, .int .i64 m1.s, .int .i64 m1.n, .bool m1.hz, .int .i64 m1.z, .int .i64 q1.o, .int .i64 q1.s, .int .i64 q1.n] 40)).alloc (.cells #[.int .i64 26, .string t2, .bool g2, .slice a2 b2 c2, .int .i64 s2, .int .i64 m2.k, .int .i64 m2.y, .int .i64 m2.m, .int .i64 m2.d, .int .i64 m2.s, .int .i64 m2.n, .bool m2.hz, .int .i64 m2.z, .int .i64 q2.o, .int .i64 q2.s, .int .i64 q2.n] 40)) := ((Below.refl _ _).alloc (Nat.le_refl _) _).alloc (Below.alloc (Below.refl w.heap.size w) (Nat.le_refl _) _).size _
    have HB : Hid _ := hb0
    clear hb0
    go_enter Tryz.func27, Tryz.ntmps27
    go_wp2_with (go_at_call 49; refine Calls.mono (HC.out _) ?_; rintro e w9 ⟨rfl, hb9⟩)
    go_ret
    exact ⟨rfl, HB.out.trans (hb9.mono HB.out.size)⟩
  · clear h0 h1
    have hb0 : Below w.heap.size w ((w.alloc (.cells #[.int .i64 27, .string t1, .bool g1, .slice a1 b1 c1, .int .i64 s1, .int .i64 m1.k, .int .i64 m1.y, .int .i64 m1.m, .int .i64 m1.d, .int .i64 m1.s, .int .i64 m1.n, .bool m1.hz, .int .i64 m1.z, .int .i64 q1.o, .int .i64 q1.s, .int .i64 q1.n] 40)).alloc (.cells #[.int .i64 27, .string t2, .bool g2, .slice a2 b2 c2, .int .i64 s2, .int .i64 m2.k, .int .i64 m2.y, .int .i64 m2.m, .int .i64 m2.d, .int .i64 m2.s, .int .i64 m2.n, .bool m2.hz, .int .i64 m2.z, .int .i64 q2.o, .int .i64 q2.s, .int .i64 q2.n] 40)) := ((Below.refl _ _).alloc (Nat.le_refl _) _).alloc (Below.alloc (Below.refl w.heap.size w) (Nat.le_refl _) _).size _
    have HB : Hid _ := hb0
    clear hb0
    go_enter Tryz.func27, Tryz.ntmps27
    go_wp2_with (go_at_call 49; refine Calls.mono (HC.out _) ?_; rintro e w9 ⟨rfl, hb9⟩)
    go_ret
    exact ⟨rfl, HB.out.trans (hb9.mono HB.out.size)⟩
  · clear h0 h1
    have hb0 : Below w.heap.size w ((w.alloc (.cells #[.int .i64 28, .string t1, .bool g1, .slice a1 b1 c1, .int .i64 s1, .int .i64 m1.k, .int .i64 m1.y, .int .i64 m1.m, .int .i64 m1.d, .int .i64 m1.s, .int .i64 m1.n, .bool m1.hz, .int .i64 m1.z, .int .i64 q1.o, .int .i64 q1.s, .int .i64 q1.n] 40)).alloc (.cells #[.int .i64 28, .string t2, .bool g2, .slice a2 b2 c2, .int .i64 s2, .int .i64 m2.k, .int .i64 m2.y, .int .i64 m2.m, .int .i64 m2.d, .int .i64 m2.s, .int .i64 m2.n, .bool m2.hz, .int .i64 m2.z, .int .i64 q2.o, .int .i64 q2.s, .int .i64 q2.n] 40)) := ((Below.refl _ _).alloc (Nat.le_refl _) _).alloc (Below.alloc (Below.refl w.heap.size w) (Nat.le_refl _) _).size _
    have HB : Hid _ := hb0
    clear hb0
    go_enter Tryz.func27, Tryz.ntmps27
    go_wp2_with (go_at_call 49; refine Calls.mono (HC.out _) ?_; rintro e w9 ⟨rfl, hb9⟩)
    go_ret
    exact ⟨rfl, HB.out.trans (hb9.mono HB.out.size)⟩
  · clear h0 h1
    have hb0 : Below w.heap.size w ((w.alloc (.cells #[.int .i64 29, .string t1, .bool g1, .slice a1 b1 c1, .int .i64 s1, .int .i64 m1.k, .int .i64 m1.y, .int .i64 m1.m, .int .i64 m1.d, .int .i64 m1.s, .int .i64 m1.n, .bool m1.hz, .int .i64 m1.z, .int .i64 q1.o, .int .i64 q1.s, .int .i64 q1.n] 40)).alloc (.cells #[.int .i64 29, .string t2, .bool g2, .slice a2 b2 c2, .int .i64 s2, .int .i64 m2.k, .int .i64 m2.y, .int .i64 m2.m, .int .i64 m2.d, .int .i64 m2.s, .int .i64 m2.n, .bool m2.hz, .int .i64 m2.z, .int .i64 q2.o, .int .i64 q2.s, .int .i64 q2.n] 40)) := ((Below.refl _ _).alloc (Nat.le_refl _) _).alloc (Below.alloc (Below.refl w.heap.size w) (Nat.le_refl _) _).size _
    have HB : Hid _ := hb0
    clear hb0
    go_enter Tryz.func27, Tryz.ntmps27
    go_wp2_with (go_at_call 49; refine Calls.mono (HC.out _) ?_; rintro e w9 ⟨rfl, hb9⟩)
    go_ret
    exact ⟨rfl, HB.out.trans (hb9.mono HB.out.size)⟩
  · clear h0 h1
    have hb0 : Below w.heap.size w ((w.alloc (.cells #[.int .i64 30, .string t1, .bool g1, .slice a1 b1 c1, .int .i64 s1, .int .i64 m1.k, .int .i64 m1.y, .int .i64 m1.m, .int .i64 m1.d, .int .i64 m1.s, .int .i64 m1.n, .bool m1.hz, .int .i64 m1.z, .int .i64 q1.o, .int .i64 q1.s, .int .i64 q1.n] 40)).alloc (.cells #[.int .i64 30, .string t2, .bool g2, .slice a2 b2 c2, .int .i64 s2, .int .i64 m2.k, .int .i64 m2.y, .int .i64 m2.m, .int .i64 m2.d, .int .i64 m2.s, .int .i64 m2.n, .bool m2.hz, .int .i64 m2.z, .int .i64 q2.o, .int .i64 q2.s, .int .i64 q2.n] 40)) := ((Below.refl _ _).alloc (Nat.le_refl _) _).alloc (Below.alloc (Below.refl w.heap.size w) (Nat.le_refl _) _).size _
    have HB : Hid _ := hb0
    clear hb0
    go_enter Tryz.func27, Tryz.ntmps27
    go_wp2_with (go_at_call 49; refine Calls.mono (HC.out _) ?_; rintro e w9 ⟨rfl, hb9⟩)
    go_ret
    exact ⟨rfl, HB.out.trans (hb9.mono HB.out.size)⟩
  · clear h0 h1
    have hb0 : Below w.heap.size w ((w.alloc (.cells #[.int .i64 31, .string t1, .bool g1, .slice a1 b1 c1, .int .i64 s1, .int .i64 m1.k, .int .i64 m1.y, .int .i64 m1.m, .int .i64 m1.d, .int .i64 m1.s, .int .i64 m1.n, .bool m1.hz, .int .i64 m1.z, .int .i64 q1.o, .int .i64 q1.s, .int .i64 q1.n] 40)).alloc (.cells #[.int .i64 31, .string t2, .bool g2, .slice a2 b2 c2, .int .i64 s2, .int .i64 m2.k, .int .i64 m2.y, .int .i64 m2.m, .int .i64 m2.d, .int .i64 m2.s, .int .i64 m2.n, .bool m2.hz, .int .i64 m2.z, .int .i64 q2.o, .int .i64 q2.s, .int .i64 q2.n] 40)) := ((Below.refl _ _).alloc (Nat.le_refl _) _).alloc (Below.alloc (Below.refl w.heap.size w) (Nat.le_refl _) _).size _
    have HB : Hid _ := hb0
    clear hb0
    go_enter Tryz.func27, Tryz.ntmps27
    go_wp2_with (go_at_call 49; refine Calls.mono (HC.out _) ?_; rintro e w9 ⟨rfl, hb9⟩)
    go_ret
    exact ⟨rfl, HB.out.trans (hb9.mono HB.out.size)⟩
theorem p_spn {s1 : Int} {t1 : ByteArray} {g1 : Bool} {a1 : Option Addr} {b1 c1 : Nat} {m1 : Dt.Mo} {q1 : Dt.Sp} {s2 : Int} {t2 : ByteArray} {g2 : Bool} {a2 : Option Addr} {b2 c2 : Nat} {m2 : Dt.Mo} {q2 : Dt.Sp} (l1 : Dt.SpT q1) (l2 : Dt.SpT q2) (w : World) : Calls Tryz.prog 27 #[vlV 32 t1 g1 (.slice a1 b1 c1) s1 m1 q1, vlV 32 t2 g2 (.slice a2 b2 c2) s2 m2 q2] w fun e w' => e = .returned (.int .i64 (Dt.cmpP q1 q2)) ∧ Below w.heap.size w w' := by
  have HC : Hid _ := fun W => Dt.cmpSpan_p q1 q2 W l1 l2
  clear l1 l2
  have hb0 : Below w.heap.size w ((w.alloc (.cells #[.int .i64 32, .string t1, .bool g1, .slice a1 b1 c1, .int .i64 s1, .int .i64 m1.k, .int .i64 m1.y, .int .i64 m1.m, .int .i64 m1.d, .int .i64 m1.s, .int .i64 m1.n, .bool m1.hz, .int .i64 m1.z, .int .i64 q1.o, .int .i64 q1.s, .int .i64 q1.n] 40)).alloc (.cells #[.int .i64 32, .string t2, .bool g2, .slice a2 b2 c2, .int .i64 s2, .int .i64 m2.k, .int .i64 m2.y, .int .i64 m2.m, .int .i64 m2.d, .int .i64 m2.s, .int .i64 m2.n, .bool m2.hz, .int .i64 m2.z, .int .i64 q2.o, .int .i64 q2.s, .int .i64 q2.n] 40)) := ((Below.refl _ _).alloc (Nat.le_refl _) _).alloc (Below.alloc (Below.refl w.heap.size w) (Nat.le_refl _) _).size _
  have HB : Hid _ := hb0
  clear hb0
  go_enter Tryz.func27, Tryz.ntmps27
  go_wp2_with (go_at_call 50; refine Calls.mono (HC.out _) ?_; rintro e w9 ⟨rfl, hb9⟩)
  go_ret
  exact ⟨rfl, HB.out.trans (hb9.mono HB.out.size)⟩
theorem p_any {w : World} {v1 v2 : Value} {d1 d2 : Kd} (h1 : VlA w v1 d1) (h2 : VlA w v2 d2) (o1 : KdOk d1) (o2 : KdOk d2) : Calls Tryz.prog 27 #[v1, v2] w fun e w' => e = .returned (.int .i64 (cmpD d1 d2)) ∧ Below w.heap.size w w' := by
  obtain ⟨a1, c1, rfl, b1⟩ := h1
  obtain ⟨a2, c2, rfl, b2⟩ := h2
  by_cases h : d1.pr = d2.pr
  · rcases same_c o1 o2 h with ⟨p, t, t', rfl, rfl⟩ | ⟨n, n', rfl, rfl⟩ | ⟨k, m, m', rfl, rfl⟩ | ⟨q, q', rfl, rfl⟩
    · have o1' : p = 1 ∨ p = 9 := o1
      have e : cmpD (.txt p t) (.txt p t') = if (t.toList == t'.toList) = true then 0 else 2 := by simp [cmpD]
      rw [e]
      cases hq : t.toList == t'.toList with
      | true =>
        rw [if_pos rfl]
        rcases o1' with rfl | rfl
        · exact p_t1y hq w
        · exact p_t9y hq w
      | false =>
        rw [if_neg (by simp)]
        rcases o1' with rfl | rfl
        · exact p_t1n hq w
        · exact p_t9n hq w
    · exact p_num w ⟨b1, o1.1, o1.2⟩ ⟨b2, o2.1, o2.2⟩
    · have e : cmpD (.mom k m) (.mom k m') = Dt.cmpM m m' := by simp [cmpD]
      rw [e]
      exact p_mom o1.1 o1.2.1 o1.2.2 o2.2.2 w
    · exact p_spn o1 o2 w
  · rw [cmp_pr o1 o2 h]
    exact p_ne h w
end Go.Proofs.YtgaegajcejpmdaaGreatDoor
