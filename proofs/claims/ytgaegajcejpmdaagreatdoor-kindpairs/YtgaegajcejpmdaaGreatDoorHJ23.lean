/- Joined: HK12, HK20, HK21t, HK21b, HDtCal0, HDtMem. -/
import Derived.Test.YtgaegajcejpmdaaGreatDoorHJ17
import Derived.Test.YtgaegajcejpmdaaGreatDoorHJ18
import Derived.Test.YtgaegajcejpmdaaGreatDoorHJ22
import Derived.Test.YtgaegajcejpmdaaGreatDoorHJ20
import Derived.Laws.Tables
import Derived.Laws.CopyRow
import Derived.Deep.MidRow
import Derived.Deep.RegionHeld3
import Derived.Deep.DeepCutAuto
import Derived.Test.YtgaegajcejpmdaaGreatDoorProg
import Derived.WalkKit
import Derived.WalkSpells
import Derived.WalkLawsBesides
import Derived.Below
import Derived.MapKept
import Derived.Carry
import Derived.BigQuiet
import Derived.Deep.QuietTactic
import Derived.Deep.LoopGhost
import Derived.Laws.IdiomStrings
import Derived.Laws.StructEq
import Derived.Lib.Bytealg
namespace Go.Proofs.YtgaegajcejpmdaaGreatDoor
open Go.RowKit
set_option linter.unusedVariables false
set_option linter.unusedSimpArgs false

theorem alloc_setRow (w : World) (old cs : Array Value) (t : TypeId) : (w.alloc (.cells old t)).setRow w.heap.size cs = w.alloc (.cells cs t) := by
  have h1 := setRow_heap (w.alloc (.cells old t)) w.heap.size old cs t (0, 0) (nw_heap w _)
  unfold World.setRow World.alloc
  congr 1
  apply Array.ext
  · simp
  · intro i h1 h2
    simp at h1 h2 ⊢
    by_cases h : i = w.heap.size
    · subst h; simp [Array.getElem_modify]
    · have : i < w.heap.size := by omega
      simp [Array.getElem_modify, Array.getElem_push, this, h]
      omega
/-- A number's fields. -/
def KN (n : Dc.Nm) (p : Int) (tx : ByteArray) (ng : Bool) (l : List Int) (sc : Int) (m : Dt.Mo) (q : Dt.Sp) : Prop := p = 10 ∧ tx = ⟨#[]⟩ ∧ ng = n.1 ∧ l = n.2.1 ∧ sc = n.2.2 ∧ m = z0 ∧ q = sp0
theorem wh3 {k : Int} (h0 : 3 ≤ k) (h1 : k ≤ 32) : whS k = 3 := by
  unfold whS
  rw [if_pos (isK_iff.2 (by omega)), if_neg (by omega), if_neg (by omega)]
theorem parseN {n : Dc.Nm} (k : Int) (s : ByteArray) (w : World) (hk0 : 10 ≤ k) (hk1 : k ≤ 23) (hs : s.size ≤ 100000) (hs2 : (Ch.spc s 3).size ≤ 100000) (hw : Lw w) (hq : Dc.parS (Dc.bl (Ch.spc s 3)) = .ok n) : Calls Tryz.prog 21 #[.int .i64 k, .string s] w (PsG (KN n) (cntB k (Dc.bl (Ch.spc s 3)) n) w) := by
  refine parse_of k s w (isK_iff.2 (by omega)) hs (fun W hW => ?_)
  rw [wh3 (by omega) (by omega)]
  refine (readN_ok k _ W hk0 hk1 hs2 (hw.below hW) hq).mono ?_
  rintro e w' ⟨hb, h⟩
  rw [hq] at h
  obtain ⟨rv, rfl, hbt⟩ := h
  exact ⟨hb, _, _, _, _, _, _, _, _, rfl, hbt, fun _ => ⟨rfl, rfl, rfl, rfl, rfl, rfl, rfl⟩⟩
theorem parseNe {x : Int} (k : Int) (s : ByteArray) (w : World) (hk0 : 10 ≤ k) (hk1 : k ≤ 23) (hs : s.size ≤ 100000) (hs2 : (Ch.spc s 3).size ≤ 100000) (hq : Dc.parS (Dc.bl (Ch.spc s 3)) = .error x) : Calls Tryz.prog 21 #[.int .i64 k, .string s] w (PsG (fun _ _ _ _ _ _ _ => True) false w) := by
  refine parse_of k s w (isK_iff.2 (by omega)) hs (fun W hW => ?_)
  rw [wh3 (by omega) (by omega)]
  refine (readN_err k _ W hk0 hk1 hs2 hq).mono ?_
  rintro e w' ⟨hb, h⟩
  rw [hq] at h
  obtain ⟨p, t, ng, sl, sc, m, q, rfl, hbt⟩ := h
  exact ⟨hb, p, t, ng, sl, [], sc, m, q, rfl, hbt, fun q => by cases q⟩
theorem spc_size (s : ByteArray) (how : Int) : (Ch.spc s how).size ≤ s.size := by
  have hsb : ∀ l : List Int, (Ch.sb l).size = l.length := fun l => by simp [Ch.sb, ByteArray.size]
  unfold Ch.spc
  split
  · rw [hsb, List.length_map, Ch.bl_len]; exact Nat.le_refl _
  · split
    · rw [hsb]
      have := Ch.col_len (Ch.bl s) [] false
      rw [Ch.bl_len] at this
      simpa using this
    · exact Nat.le_refl _
set_option maxRecDepth 100000 in
set_option maxHeartbeats 1600000 in
/-- Text, of a number. -/
theorem textN {w : World} {v : Value} {n : Dc.Nm} (tx : ByteArray) (m : Dt.Mo) (q : Dt.Sp) (h : Dc.NmR w v n) : Calls Tryz.prog 24 #[vlV 10 tx n.1 v n.2.2 m q] w fun e w' => e = .returned (.string (Dc.sb (Dc.txS n))) ∧ Below w.heap.size w w' := by
  obtain ⟨va, vc, rfl, _⟩ := h.bt.form
  have hbx := BX.new w 40 (vlL 10 tx n.1 (.slice va n.2.1.length vc) n.2.2 m q)
  have ht := fun W (hW : Below w.heap.size w W) => Dc.text_p (h.below hW)
  have HT : Hid _ := And.intro ht hbx.bel
  clear ht h hbx
  go_enter Tryz.func24, Tryz.ntmps24
  go_wp2_with (go_at_call 32; refine Calls.mono (HT.out.1 _ HT.out.2) ?_; rintro e w9 ⟨rfl, hb9⟩)
  go_ret
  exact ⟨rfl, HT.out.2.trans (hb9.mono HT.out.2.size)⟩
end Go.Proofs.YtgaegajcejpmdaaGreatDoor
namespace Go.Proofs.YtgaegajcejpmdaaGreatDoor
open Go.RowKit
set_option linter.unusedVariables false
set_option linter.unusedSimpArgs false

/-- Is a text such a name as its kind asks for? -/
def nmdB (k : Int) (l : List Int) : Bool := if k = 4 then Ch.tokB l else if k = 5 then Ch.nameB l else if k = 6 ∨ k = 7 ∨ k = 8 then Ch.ncB l else true
theorem named_p (k : Int) (s : ByteArray) (w : World) (hs : s.size ≤ maxLen) : Calls Tryz.prog 57 #[.int .i64 k, .string s] w fun e w' => e = .returned (.bool (nmdB k (Ch.bl s))) ∧ Below w.heap.size w w' := by
  rcases (by omega : k = 4 ∨ k = 5 ∨ k = 6 ∨ k = 7 ∨ k = 8 ∨ (k ≠ 4 ∧ k ≠ 5 ∧ k ≠ 6 ∧ k ≠ 7 ∧ k ≠ 8)) with rfl | rfl | rfl | rfl | rfl | ⟨h4, h5, h6, h7, h8⟩
  · go_enter Tryz.func57, Tryz.ntmps57
    go_wp2_with (go_at_call 101; refine (Ch.tok_any _ _ hs).mono ?_; rintro e w9 ⟨rfl, hb9⟩)
    go_ret
    exact ⟨rfl, hb9⟩
  · go_enter Tryz.func57, Tryz.ntmps57
    go_wp2_with (go_at_call 102; refine (Ch.name_any _ _ hs).mono ?_; rintro e w9 ⟨rfl, hb9⟩)
    go_ret
    exact ⟨rfl, hb9⟩
  · go_enter Tryz.func57, Tryz.ntmps57
    go_wp2_with (go_at_call 103; refine (Ch.nc_any _ _ hs).mono ?_; rintro e w9 ⟨rfl, hb9⟩)
    go_ret
    exact ⟨rfl, hb9⟩
  · go_enter Tryz.func57, Tryz.ntmps57
    go_wp2_with (go_at_call 103; refine (Ch.nc_any _ _ hs).mono ?_; rintro e w9 ⟨rfl, hb9⟩)
    go_ret
    exact ⟨rfl, hb9⟩
  · go_enter Tryz.func57, Tryz.ntmps57
    go_wp2_with (go_at_call 103; refine (Ch.nc_any _ _ hs).mono ?_; rintro e w9 ⟨rfl, hb9⟩)
    go_ret
    exact ⟨rfl, hb9⟩
  · have HE : Hid (nmdB k (Ch.bl s) = true) := by show _ = _; unfold nmdB; rw [if_neg h4, if_neg h5, if_neg (by omega)]
    have f4 : (k == 4) = false := by simpa using h4
    have f5 : (k == 5) = false := by simpa using h5
    have f6 : (k == 6) = false := by simpa using h6
    have f7 : (k == 7) = false := by simpa using h7
    have f8 : (k == 8) = false := by simpa using h8
    clear h4 h5 h6 h7 h8
    go_enter Tryz.func57, Tryz.ntmps57
    go_wp2_with fail
    go_ret
    exact ⟨ret_b HE.out.symm, Below.refl _ _⟩
/-- A boolean's one text. -/
def trS (s : ByteArray) : Option ByteArray :=
  if (s.toList == [116, 114, 117, 101]) = true ∨ (s.toList == [49]) = true then some ⟨#[116, 114, 117, 101]⟩ else if (s.toList == [102, 97, 108, 115, 101]) = true ∨ (s.toList == [48]) = true then some ⟨#[102, 97, 108, 115, 101]⟩ else none
theorem truth_p (s : ByteArray) (w : World) : Calls Tryz.prog 58 #[.string s] w fun e w' => e = .returned (.tuple #[.string ((trS s).getD ⟨#[]⟩), .bool (trS s).isSome]) ∧ w' = w := by
  go_enter Tryz.func58, Tryz.ntmps58
  go_wp2_with fail
  all_goals
    go_ret2
    refine ⟨?_, rfl⟩
    unfold trS
    simp_all
/-- A text's fields. -/
def KT (p0 : Int) (t : ByteArray) (p : Int) (tx : ByteArray) (ng : Bool) (l : List Int) (sc : Int) (m : Dt.Mo) (q : Dt.Sp) : Prop := p = p0 ∧ tx = t ∧ ng = false ∧ l = [] ∧ sc = 0 ∧ m = z0 ∧ q = sp0
theorem pr1 {k : Int} (h0 : 1 ≤ k) (h1 : k ≤ 8) : prS k = 1 := by
  obtain ⟨n, rfl⟩ : ∃ n : Nat, k = n := ⟨k.toNat, by omega⟩
  rcases (by omega : n = 1 ∨ n = 2 ∨ n = 3 ∨ n = 4 ∨ n = 5 ∨ n = 6 ∨ n = 7 ∨ n = 8) with rfl | rfl | rfl | rfl | rfl | rfl | rfl | rfl <;> rfl
theorem prim1 (k : Int) (h0 : 1 ≤ k) (h1 : k ≤ 8) (w : World) : Calls Tryz.prog 15 #[.int .i64 k] w fun e w' => e = .returned (.int .i64 1) ∧ w' = w := by
  have := prim_k k w
  rwa [pr1 h0 h1] at this
/-- A time's or a span's fields. -/
def KV (p0 : Int) (m0 : Dt.Mo) (q0 : Dt.Sp) (p : Int) (tx : ByteArray) (ng : Bool) (l : List Int) (sc : Int) (m : Dt.Mo) (q : Dt.Sp) : Prop := p = p0 ∧ tx = ⟨#[]⟩ ∧ ng = false ∧ l = [] ∧ sc = 0 ∧ m = m0 ∧ q = q0
theorem pr24 {k : Int} (h0 : 24 ≤ k) (h1 : k ≤ 31) : prS k = k := by
  obtain ⟨n, rfl⟩ : ∃ n : Nat, k = n := ⟨k.toNat, by omega⟩
  rcases (by omega : n = 24 ∨ n = 25 ∨ n = 26 ∨ n = 27 ∨ n = 28 ∨ n = 29 ∨ n = 30 ∨ n = 31) with rfl | rfl | rfl | rfl | rfl | rfl | rfl | rfl <;> rfl
theorem btr0 {w : World} : Dc.BtR w (.slice none 0 0) [] := btr_nil (Nat.zero_le _)
end Go.Proofs.YtgaegajcejpmdaaGreatDoor
namespace Go.Proofs.YtgaegajcejpmdaaGreatDoor
open Go.RowKit
set_option linter.unusedVariables false
set_option linter.unusedSimpArgs false

set_option maxRecDepth 100000 in
set_option maxHeartbeats 3200000 in
theorem readT (k : Int) (s : ByteArray) (w : World) (hk0 : 1 ≤ k) (hk1 : k ≤ 8) (hs : s.size ≤ 100000) : Calls Tryz.prog 37 #[.int .i64 k, .string s] w (RdG (KT 1 s) (nmdB k (Ch.bl s)) w) := by
  have hbx := BX.new w 40 [.int .i64 1, .string s, .bool false, .slice none 0 0, .int .i64 0, .int .i64 0, .int .i64 0, .int .i64 0, .int .i64 0, .int .i64 0, .int .i64 0, .bool false, .int .i64 0, .int .i64 0, .int .i64 0, .int .i64 0]
  have hpr := fun W => prim1 k hk0 hk1 W
  have hnm := fun W => named_p k s W (by unfold maxLen; omega)
  have HX : Hid _ := hbx
  clear hbx hs hk0 hk1
  generalize nmdB k (Ch.bl s) = cb at *
  go_enter Tryz.func37, Tryz.ntmps37
  go_upto_region 7 with (go_at_call 15; refine (hpr _).mono ?_; rintro e w1 ⟨rfl, hw1⟩; have hw2 := hw1.symm; clear hw1; subst hw2)
  have hblk := HX.out.blk
  generalize w.alloc (.cells #[.int .i64 1, .string s, .bool false, .slice none 0 0, .int .i64 0, .int .i64 0, .int .i64 0, .int .i64 0, .int .i64 0, .int .i64 0, .int .i64 0, .bool false, .int .i64 0, .int .i64 0, .int .i64 0, .int .i64 0] 40) = W3 at *
  refine wp_region_held_drew (S := fun W => W.heap[w.heap.size]? = some (.cells [.int .i64 1, .string s, .bool false, .slice none 0 0, .int .i64 0, .int .i64 0, .int .i64 0, .int .i64 0, .int .i64 0, .int .i64 0, .int .i64 0, .bool false, .int .i64 0, .int .i64 0, .int .i64 0, .int .i64 0].toArray 40 (0, 0))) (by kernel_rfl) hblk (fun hHeld => ?_)
  refine wpAnyH_take (i := 0) (v := .agg #[.int .i64 1, .string s, .bool false, .slice none 0 0, .int .i64 0, .int .i64 0, .int .i64 0, .int .i64 0, .int .i64 0, .int .i64 0, .int .i64 0, .bool false, .int .i64 0, .int .i64 0, .int .i64 0, .int .i64 0]) rfl (by kernel_rfl) (by kernel_rfl) (by kernel_rfl) (fun _ _ _ h => h) (yieldsIf_load_mid (by kernel_rfl) 40 _ rfl w.heap.size 0 rfl [.int .i64 1, .string s, .bool false, .slice none 0 0, .int .i64 0, .int .i64 0, .int .i64 0, .int .i64 0, .int .i64 0, .int .i64 0, .int .i64 0, .bool false, .int .i64 0, .int .i64 0, .int .i64 0, .int .i64 0] _ (fun W hW => rng0 hW) Tryz.underlying40 rfl (by kernel_rfl)) (by assumption) ?_
  try simp only [Act.put, List.getElem_toArray, List.getElem_cons_zero, List.getElem_cons_succ, List.setIfInBounds_toArray, List.set_cons_zero, List.set_cons_succ]
  refine wpAnyH_take (i := 1) (v := (.int .i64 k)) rfl (by kernel_rfl) (by kernel_rfl) (by kernel_rfl) (fun _ _ _ h => h) (Or.inl ⟨by kernel_rfl, fun w' hSw => (by (try dsimp only at hSw); go_simp)⟩) (by assumption) ?_
  try simp only [Act.put, List.getElem_toArray, List.getElem_cons_zero, List.getElem_cons_succ, List.setIfInBounds_toArray, List.set_cons_zero, List.set_cons_succ]
  refine wpAnyH_take (i := 2) (v := (.string s)) rfl (by kernel_rfl) (by kernel_rfl) (by kernel_rfl) (fun _ _ _ h => h) (Or.inl ⟨by kernel_rfl, fun w' hSw => (by (try dsimp only at hSw); go_simp)⟩) (by assumption) ?_
  try simp only [Act.put, List.getElem_toArray, List.getElem_cons_zero, List.getElem_cons_succ, List.setIfInBounds_toArray, List.set_cons_zero, List.set_cons_succ]
  refine wpAnyH_ready (rs := [3]) (by kernel_rfl) (by simp) ?_
  refine AllReadyH.cons rfl (fun K hK => ?_) AllReadyH.nil
  go_simp
  refine Calls.mono (hnm _) ?_
  rintro e w9 ⟨rfl, hb9⟩
  have hbb : Below W3.heap.size W3 w9 := (Dc.Below.drewN' 1).trans hb9
  have hblk9 := (hbb.block _ (Dc.lt_of hblk)).trans hblk
  have HB9 : Hid _ := hbb
  clear hbb hb9 hHeld
  go_wp2_with fail
  refine hK.out _ _ hblk9 (fun hHeld => ?_)
  clear hK K
  try simp only [Act.put, List.getElem_toArray, List.getElem_cons_zero, List.getElem_cons_succ, List.setIfInBounds_toArray, List.set_cons_zero, List.set_cons_succ]
  refine wpAnyH_ready (rs := [4]) (by kernel_rfl) (by simp) ?_
  refine AllReadyH.cons rfl (fun K hK => ?_) AllReadyH.nil
  rw [if_pos (by kernel_rfl)]
  refine wp_store_row 40 _ _ rfl w.heap.size _ rfl rfl 40 _ hHeld (by kernel_rfl) rfl (by simp [Value.oneCell']) ?_
  rw [setRow_self _ _ _ _ _ hHeld]
  refine hK.out _ _ hHeld (fun hHeld => ?_)
  clear hK K
  try simp only [Act.put, List.getElem_toArray, List.getElem_cons_zero, List.getElem_cons_succ, List.setIfInBounds_toArray, List.set_cons_zero, List.set_cons_succ]
  refine wpAnyH_take (i := 5) (v := (.bool cb)) rfl (by kernel_rfl) (by kernel_rfl) (by kernel_rfl) (fun _ _ _ h => h) (Or.inl ⟨by kernel_rfl, fun w' hSw => (by (try dsimp only at hSw); go_simp)⟩) (by assumption) ?_
  try simp only [Act.put, List.getElem_toArray, List.getElem_cons_zero, List.getElem_cons_succ, List.setIfInBounds_toArray, List.set_cons_zero, List.set_cons_succ]
  refine wpAnyH_done (by kernel_rfl) ?_ _
  have HY : Hid _ := HX.out.bel.trans (HB9.out.mono HX.out.lsz)
  have HHe : Hid _ := hHeld
  clear hHeld hblk9 hblk
  go_wp2_with fail
  exact bodyPost_ret (v := .tuple #[vlV 1 s false (.slice none 0 0) 0 z0 sp0, .bool cb]) (by refine (res2 (X := w.heap.size) Tryz.results37 ?_ HHe.out rfl).trans ?_ <;> rfl) rfl ⟨HY.out, _, _, _, _, [], _, _, _, rfl, btr0, fun _ => ⟨rfl, rfl, rfl, rfl, rfl, rfl, rfl⟩⟩
end Go.Proofs.YtgaegajcejpmdaaGreatDoor
namespace Go.Proofs.YtgaegajcejpmdaaGreatDoor
open Go.RowKit
set_option linter.unusedVariables false
set_option linter.unusedSimpArgs false

theorem prim9 (w : World) : Calls Tryz.prog 15 #[.int .i64 9] w fun e w' => e = .returned (.int .i64 9) ∧ w' = w := prim_k 9 w
set_option maxRecDepth 100000 in
set_option maxHeartbeats 3200000 in
theorem readB (s : ByteArray) (w : World) : Calls Tryz.prog 37 #[.int .i64 9, .string s] w (RdG (KT 9 ((trS s).getD ⟨#[]⟩)) (trS s).isSome w) := by
  have htr := fun W => truth_p s W
  generalize (trS s).getD ⟨#[]⟩ = tb at *
  generalize (trS s).isSome = cb at *
  have hbx := BX.new w 40 [.int .i64 9, .string tb, .bool false, .slice none 0 0, .int .i64 0, .int .i64 0, .int .i64 0, .int .i64 0, .int .i64 0, .int .i64 0, .int .i64 0, .bool false, .int .i64 0, .int .i64 0, .int .i64 0, .int .i64 0]
  have hA := nw_heap w (.cells #[.int .i64 9, .string tb, .bool false, .slice none 0 0, .int .i64 0, .int .i64 0, .int .i64 0, .int .i64 0, .int .i64 0, .int .i64 0, .int .i64 0, .bool false, .int .i64 0, .int .i64 0, .int .i64 0, .int .i64 0] 40)
  have HX : Hid _ := hbx
  clear hbx
  go_enter Tryz.func37, Tryz.ntmps37
  go_wp2_with (first | (go_at_call 15; refine (prim9 _).mono ?_; rintro e w1 ⟨rfl, hw1⟩; have hw2 := hw1.symm; clear hw1; subst hw2) | (go_at_call 58; refine (htr _).mono ?_; rintro e w1 ⟨rfl, hw1⟩; have hw2 := hw1.symm; clear hw1; subst hw2) | (refine wpList_load_row rfl 40 _ rfl w.heap.size rfl 40 _ (0, 0) _ hA Tryz.underlying40 rfl (by kernel_rfl) ?_) | (refine wpList_store_row rfl 40 _ _ rfl w.heap.size _ rfl rfl 40 _ hA (by kernel_rfl) rfl (by simp [Value.oneCell']) ?_; rw [alloc_setRow]))
  exact bodyPost_ret (v := .tuple #[vlV 9 tb false (.slice none 0 0) 0 z0 sp0, .bool cb]) (by refine (res2 (X := w.heap.size) Tryz.results37 ?_ HX.out.blk rfl).trans ?_ <;> rfl) rfl ⟨HX.out.bel, _, _, _, _, [], _, _, _, rfl, btr0, fun _ => ⟨rfl, rfl, rfl, rfl, rfl, rfl, rfl⟩⟩
end Go.Proofs.YtgaegajcejpmdaaGreatDoor
namespace Go.Proofs.YtgaegajcejpmdaaGreatDoor.Dt
set_option linter.unusedVariables false

theorem tmod_neg {a b : Int} (hb : 0 < b) (h : a.tmod b < 0) : a.tmod b + b = a % b := by
  rw [Int.tmod_eq_emod] at h ⊢
  have := Int.emod_nonneg a (show b ≠ 0 by omega)
  split at h <;> rename_i c
  · omega
  · rw [if_neg c]; omega
theorem tmod_pos {a b : Int} (hb : 0 < b) (h : ¬ a.tmod b < 0) : a.tmod b = a % b := by
  rw [Int.tmod_eq_emod] at h ⊢
  have := Int.emod_lt_of_pos a hb
  split at h <;> rename_i c
  · rw [if_pos c]; omega
  · omega
theorem tdiv_fix {a b : Int} (hb : 0 < b) : (a - a % b).tdiv b = a / b := by
  have : a - a % b = b * (a / b) := by have := Int.emod_add_mul_ediv a b; omega
  rw [this, Int.mul_tdiv_cancel_left _ (by omega)]
theorem emod_in (a : Int) {b : Int} (hb : 0 < b) : 0 ≤ a % b ∧ a % b < b := ⟨Int.emod_nonneg _ (by omega), Int.emod_lt_of_pos _ hb⟩
end Go.Proofs.YtgaegajcejpmdaaGreatDoor.Dt
namespace Go.Proofs.YtgaegajcejpmdaaGreatDoor.Dt
open Go.RowKit
set_option linter.unusedVariables false

theorem nw_heap (w : World) (o : Obj) : (w.alloc o).heap[w.heap.size]? = some o := (Go.MapKept.heap_alloc w o).1
theorem bset {w : World} {X i : Nat} {t : TypeId} {cs : Array Value} (h : w.heap[X]? = some (.cells cs t (0, 0))) (u : Value) : (w.setCell ⟨X, i, none⟩ u).heap[X]? = some (.cells (cs.setIfInBounds i u) t (0, 0)) := by
  simp only [World.setCell, Array.getElem?_modify]
  rw [if_pos trivial, h]
  simp
theorem sza (w : World) (o : Obj) : (w.alloc o).heap.size = w.heap.size + 1 := by simp
theorem lt_of {w : World} {X : Nat} {o : Obj} (h : w.heap[X]? = some o) : X < w.heap.size := (Array.getElem?_eq_some_iff.1 h).1
theorem below_drewN {w : World} (k : Nat) : Below w.heap.size w (w.drewN k) := ⟨rfl, rfl, rfl, Nat.le_refl _, fun _ _ => rfl⟩
theorem bdrewN {N : Nat} {a w : World} (h : Below N a w) (q : Nat) : Below N a (w.drewN q) := ⟨h.os, h.tape, h.output, h.size, h.block⟩
theorem bcell {W w1 : World} (hb : Below W.heap.size W w1) : (∀ b o, b < W.heap.size → w1.cell? ⟨b, o, none⟩ = W.cell? ⟨b, o, none⟩) ∧ (∀ b o, b < W.heap.size → w1.frozen? ⟨b, o, none⟩ = W.frozen? ⟨b, o, none⟩) :=
  ⟨fun b o h => hb.cell (p := ⟨b, o, none⟩) h, fun b o h => hb.frozen (p := ⟨b, o, none⟩) h⟩
theorem ret_int {k : IntKind} {a b : Int} (h : a = b) : Ending.returned (.int k a) = .returned (.int k b) := by rw [h]
theorem ret_bool {a b : Bool} (h : a = b) : Ending.returned (.bool a) = .returned (.bool b) := by rw [h]
/-- What changes lies in blocks of its own. -/
structure Fro (O : Nat → Prop) (w w' : World) : Prop where
  os : w'.os = w.os
  tape : w'.tape = w.tape
  output : w'.output = w.output
  size : w.heap.size ≤ w'.heap.size
  block : ∀ k, k < w.heap.size → ¬ O k → w'.heap[k]? = w.heap[k]?
theorem Fro.refl (O : Nat → Prop) (w : World) : Fro O w w := ⟨rfl, rfl, rfl, Nat.le_refl _, fun _ _ _ => rfl⟩
theorem Fro.trans {O : Nat → Prop} {a b c : World} (h : Fro O a b) (k : Fro O b c) : Fro O a c :=
  ⟨k.os.trans h.os, k.tape.trans h.tape, k.output.trans h.output, Nat.le_trans h.size k.size, fun i hi hn => (k.block i (Nat.lt_of_lt_of_le hi h.size) hn).trans (h.block i hi hn)⟩
/-- What is new since may change too. -/
theorem Fro.trans' {O O' : Nat → Prop} {a b c : World} (h : Fro O a b) (k : Fro O' b c) (ho : ∀ i, i < a.heap.size → O' i → O i) : Fro O a c :=
  ⟨k.os.trans h.os, k.tape.trans h.tape, k.output.trans h.output, Nat.le_trans h.size k.size, fun i hi hn => (k.block i (Nat.lt_of_lt_of_le hi h.size) (fun q => hn (ho i hi q))).trans (h.block i hi hn)⟩
theorem Fro.mono {O O' : Nat → Prop} {a b : World} (h : Fro O a b) (ho : ∀ i, i < a.heap.size → O i → O' i) : Fro O' a b :=
  ⟨h.os, h.tape, h.output, h.size, fun i hi hn => h.block i hi (fun q => hn (ho i hi q))⟩
theorem Fro.below {O : Nat → Prop} {a b : World} (h : Below a.heap.size a b) : Fro O a b := ⟨h.os, h.tape, h.output, h.size, fun i hi _ => h.block i hi⟩
theorem Fro.toBelow {O : Nat → Prop} {a b : World} {N : Nat} (h : Fro O a b) (hN : N ≤ a.heap.size) (ho : ∀ i, i < N → ¬ O i) : Below N a b := ⟨h.os, h.tape, h.output, h.size, fun i hi => h.block i (Nat.lt_of_lt_of_le hi hN) (ho i hi)⟩
theorem Fro.drewN {O : Nat → Prop} {a b : World} (h : Fro O a b) (q : Nat) : Fro O a (b.drewN q) := ⟨h.os, h.tape, h.output, h.size, h.block⟩
theorem Fro.alloc {O : Nat → Prop} {a b : World} (h : Fro O a b) (o : Obj) : Fro O a (b.alloc o) := h.trans' (Fro.below (O := fun _ => False) ((Below.refl _ _).alloc (Nat.le_refl _) o)) (fun _ _ q => q.elim)
theorem Fro.set {O : Nat → Prop} {a b : World} (h : Fro O a b) {X i : Nat} (hX : O X ∨ a.heap.size ≤ X) (u : Value) : Fro O a (b.setCell ⟨X, i, none⟩ u) :=
  h.trans' (O' := fun k => k = X) ⟨rfl, rfl, rfl, by simp [World.setCell], fun k _ hk => Below.heap_setCell _ _ _ _ hk⟩ (fun k hk e => by
    rcases hX with q | q
    · rw [e]; exact q
    · omega)
theorem Fro.at {O : Nat → Prop} {a b : World} (h : Fro O a b) {X : Nat} {o : Obj} (hX : a.heap[X]? = some o) (hO : ¬ O X) : b.heap[X]? = some o := (h.block X (lt_of hX) hO).trans hX
end Go.Proofs.YtgaegajcejpmdaaGreatDoor.Dt
