/- Joined: HK11, HK12, HK20, HK21t, HK21b. -/
import Derived.Test.YtgaegajcejpmdaaGreatDoorHJ14
import Derived.Laws.CopyOwn
import Derived.Test.YtgaegajcejpmdaaGreatDoorHJ18
import Derived.Test.YtgaegajcejpmdaaGreatDoorHJ17
import Derived.Laws.Tables
import Derived.Laws.CopyRow
import Derived.Deep.MidRow
import Derived.Deep.RegionHeld3
import Derived.Deep.DeepCutAuto
namespace Go.Proofs.YtgaegajcejpmdaaGreatDoor
open Go.RowKit
set_option linter.unusedVariables false
set_option linter.unusedSimpArgs false

/-- What read leaves: a value with a row of digits; where it is right, KK tells of it. -/
def RdG (KK : Int → ByteArray → Bool → List Int → Int → Dt.Mo → Dt.Sp → Prop) (ok : Bool) (w : World) (e : Ending) (w' : World) : Prop :=
  Below w.heap.size w w' ∧ ∃ p tx ng sl l sc m q, e = .returned (.tuple #[vlV p tx ng sl sc m q, .bool ok]) ∧ Dc.BtR w' sl l ∧ (ok = true → KK p tx ng l sc m q)
/-- What Parse leaves. -/
def PsG (KK : Int → ByteArray → Bool → List Int → Int → Dt.Mo → Dt.Sp → Prop) (ok : Bool) (w : World) (e : Ending) (w' : World) : Prop :=
  Below w.heap.size w w' ∧ (ok = true → ∃ p tx ng sl l sc m q, e = .returned (.tuple #[vlV p tx ng sl sc m q, .int .i64 0]) ∧ Dc.BtR w' sl l ∧ KK p tx ng l sc m q) ∧ (ok = false → e = .returned (.tuple #[vlV 0 ⟨#[]⟩ false (.slice none 0 0) 0 z0 sp0, .int .i64 2]))
theorem no_u8 {p sc : Int} {tx : ByteArray} {ng : Bool} {a : Option Addr} {x y : Nat} {m : Dt.Mo} {q : Dt.Sp} : ∀ u ∈ vlL p tx ng (.slice a x y) sc m q, ∀ d, u ≠ .int .u8 d := by
  intro u hu d e
  subst e
  simp at hu
set_option maxRecDepth 100000 in
set_option maxHeartbeats 6400000 in
theorem parse_of {KK : Int → ByteArray → Bool → List Int → Int → Dt.Mo → Dt.Sp → Prop} {ok : Bool} (k : Int) (s : ByteArray) (w : World) (hk : isK k = true) (hs : s.size ≤ 100000)
    (hrd : ∀ W, Below w.heap.size w W → Calls Tryz.prog 37 #[.int .i64 k, .string (Ch.spc s (whS k))] W (RdG KK ok W)) : Calls Tryz.prog 21 #[.int .i64 k, .string s] w (PsG KK ok w) := by
  have hbx := BX.new w 40 (vlL 0 ⟨#[]⟩ false (.slice none 0 0) 0 z0 sp0)
  have HX : Hid _ := hbx
  have HR : Hid _ := hrd
  have hsp := fun W => Ch.space_any s (whS k) W hs
  clear hbx hrd hs
  generalize Ch.spc s (whS k) = t at *
  have hwk := fun W => white_k k W
  generalize whS k = wk at *
  go_enter Tryz.func21, Tryz.ntmps21
  go_wp2_with (first | (go_at_call 33; refine (known_k _ _).mono ?_; rintro e w' ⟨rfl, hw1⟩; have hw2 := hw1.symm; clear hw1; subst hw2) | (go_at_call 17; refine (hwk _).mono ?_; rintro e w' ⟨rfl, hw1⟩; have hw2 := hw1.symm; clear hw1; subst hw2) | (go_at_call 38; refine (hsp _).mono ?_; rintro e w1 ⟨rfl, hb1⟩; have hx1 := HX.out.below hb1; have HX1 : Hid _ := hx1; clear hb1 hx1))
  refine Calls.mono (HR.out _ HX1.out.bel) ?_
  rintro e w2 ⟨hb2, p, tx, ng, sl, l, sc, m, q, rfl, hbt, hkk⟩
  have hx2 := HX1.out.below hb2
  obtain ⟨va, vc, rfl, _⟩ := hbt.form
  have hlt2 : w.heap.size < w2.heap.size := Dc.lt_of hx2.blk
  have hA := nw_heap w2 (.cells #[.int .i64 0, .string ⟨#[]⟩, .bool false, .slice none 0 0, .int .i64 0, .int .i64 0, .int .i64 0, .int .i64 0, .int .i64 0, .int .i64 0, .int .i64 0, .bool false, .int .i64 0, .int .i64 0, .int .i64 0, .int .i64 0] 40)
  have hL : ((w2.alloc (.cells #[.int .i64 0, .string ⟨#[]⟩, .bool false, .slice none 0 0, .int .i64 0, .int .i64 0, .int .i64 0, .int .i64 0, .int .i64 0, .int .i64 0, .int .i64 0, .bool false, .int .i64 0, .int .i64 0, .int .i64 0, .int .i64 0] 40)).setRow w2.heap.size #[.int .i64 p, .string tx, .bool ng, .slice va l.length vc, .int .i64 sc, .int .i64 m.k, .int .i64 m.y, .int .i64 m.m, .int .i64 m.d, .int .i64 m.s, .int .i64 m.n, .bool m.hz, .int .i64 m.z, .int .i64 q.o, .int .i64 q.s, .int .i64 q.n]).heap[w2.heap.size]? = some (.cells #[.int .i64 p, .string tx, .bool ng, .slice va l.length vc, .int .i64 sc, .int .i64 m.k, .int .i64 m.y, .int .i64 m.m, .int .i64 m.d, .int .i64 m.s, .int .i64 m.n, .bool m.hz, .int .i64 m.z, .int .i64 q.o, .int .i64 q.s, .int .i64 q.n] 40 (0, 0)) := setRow_heap _ _ _ _ _ _ hA
  have hB5 : Below w2.heap.size w2 ((w2.alloc (.cells #[.int .i64 0, .string ⟨#[]⟩, .bool false, .slice none 0 0, .int .i64 0, .int .i64 0, .int .i64 0, .int .i64 0, .int .i64 0, .int .i64 0, .int .i64 0, .bool false, .int .i64 0, .int .i64 0, .int .i64 0, .int .i64 0] 40)).setRow w2.heap.size #[.int .i64 p, .string tx, .bool ng, .slice va l.length vc, .int .i64 sc, .int .i64 m.k, .int .i64 m.y, .int .i64 m.m, .int .i64 m.d, .int .i64 m.s, .int .i64 m.n, .bool m.hz, .int .i64 m.z, .int .i64 q.o, .int .i64 q.s, .int .i64 q.n]) := below_setRow ((Below.refl _ _).alloc (Nat.le_refl _) _) (Nat.le_refl _) _
  have hx5 := hx2.below hB5
  have hS : ((w2.alloc (.cells #[.int .i64 0, .string ⟨#[]⟩, .bool false, .slice none 0 0, .int .i64 0, .int .i64 0, .int .i64 0, .int .i64 0, .int .i64 0, .int .i64 0, .int .i64 0, .bool false, .int .i64 0, .int .i64 0, .int .i64 0, .int .i64 0] 40)).setRow w2.heap.size #[.int .i64 p, .string tx, .bool ng, .slice va l.length vc, .int .i64 sc, .int .i64 m.k, .int .i64 m.y, .int .i64 m.m, .int .i64 m.d, .int .i64 m.s, .int .i64 m.n, .bool m.hz, .int .i64 m.z, .int .i64 q.o, .int .i64 q.s, .int .i64 q.n]).heap[w.heap.size]? = some (.cells #[.int .i64 0, .string ⟨#[]⟩, .bool false, .slice none 0 0, .int .i64 0, .int .i64 0, .int .i64 0, .int .i64 0, .int .i64 0, .int .i64 0, .int .i64 0, .bool false, .int .i64 0, .int .i64 0, .int .i64 0, .int .i64 0] 40 (0, 0)) := hx5.blk
  have HT : Hid _ := And.intro (Dc.BtR.below hbt hB5) (And.intro hkk hx5)
  clear hx2 hbt hkk hb2 HX HX1 HR hsp hwk hx5 hB5
  cases ok with
  | true =>
    go_wp2_with (first | (refine wpList_store_row rfl 40 _ _ rfl w2.heap.size _ rfl rfl 40 _ hA (by kernel_rfl) rfl (by simp [Value.oneCell']) ?_) | (refine wpList_load_row rfl 40 _ rfl w2.heap.size rfl 40 _ (0, 0) _ hL Tryz.underlying40 rfl (by kernel_rfl) ?_) | (refine wpList_store_row rfl 40 _ _ rfl w.heap.size _ rfl rfl 40 _ hS (by kernel_rfl) rfl (by simp [Value.oneCell']) ?_))
    generalize (w2.alloc (.cells #[.int .i64 0, .string ⟨#[]⟩, .bool false, .slice none 0 0, .int .i64 0, .int .i64 0, .int .i64 0, .int .i64 0, .int .i64 0, .int .i64 0, .int .i64 0, .bool false, .int .i64 0, .int .i64 0, .int .i64 0, .int .i64 0] 40)).setRow w2.heap.size #[.int .i64 p, .string tx, .bool ng, .slice va l.length vc, .int .i64 sc, .int .i64 m.k, .int .i64 m.y, .int .i64 m.m, .int .i64 m.d, .int .i64 m.s, .int .i64 m.n, .bool m.hz, .int .i64 m.z, .int .i64 q.o, .int .i64 q.s, .int .i64 q.n] = W5 at *
    have hf := setRow_heap W5 w.heap.size _ #[.int .i64 p, .string tx, .bool ng, .slice va l.length vc, .int .i64 sc, .int .i64 m.k, .int .i64 m.y, .int .i64 m.m, .int .i64 m.d, .int .i64 m.s, .int .i64 m.n, .bool m.hz, .int .i64 m.z, .int .i64 q.o, .int .i64 q.s, .int .i64 q.n] _ _ hS
    have hb : Below w.heap.size w (W5.setRow w.heap.size #[.int .i64 p, .string tx, .bool ng, .slice va l.length vc, .int .i64 sc, .int .i64 m.k, .int .i64 m.y, .int .i64 m.m, .int .i64 m.d, .int .i64 m.s, .int .i64 m.n, .bool m.hz, .int .i64 m.z, .int .i64 q.o, .int .i64 q.s, .int .i64 q.n]) := below_setRow HT.out.2.2.bel (Nat.le_refl _) _
    have hbt : Dc.BtR (W5.setRow w.heap.size #[.int .i64 p, .string tx, .bool ng, .slice va l.length vc, .int .i64 sc, .int .i64 m.k, .int .i64 m.y, .int .i64 m.m, .int .i64 m.d, .int .i64 m.s, .int .i64 m.n, .bool m.hz, .int .i64 m.z, .int .i64 q.o, .int .i64 q.s, .int .i64 q.n]) (.slice va l.length vc) l := Dc.BtR.kept HT.out.1 (Nat.le_of_eq (setRow_size _ _ _).symm) (fun k hk => setRow_other _ _ _ _ hk) (btr_apart HT.out.1 HT.out.2.2.blk no_u8)
    exact bodyPost_ret (v := .tuple #[vlV p tx ng (.slice va l.length vc) sc m q, .int .i64 0]) (by refine (res2 (X := w.heap.size) Tryz.results21 ?_ hf rfl).trans ?_ <;> rfl) rfl ⟨hb, fun _ => ⟨p, tx, ng, _, l, sc, m, q, rfl, hbt, HT.out.2.1 trivial⟩, fun q => by cases q⟩
  | false =>
    go_wp2_with (first | (refine wpList_store_row rfl 40 _ _ rfl w2.heap.size _ rfl rfl 40 _ hA (by kernel_rfl) rfl (by simp [Value.oneCell']) ?_) | (refine wpList_store_row rfl 40 _ _ rfl w.heap.size _ rfl rfl 40 _ hS (by kernel_rfl) rfl (by simp [Value.oneCell']) ?_))
    generalize (w2.alloc (.cells #[.int .i64 0, .string ⟨#[]⟩, .bool false, .slice none 0 0, .int .i64 0, .int .i64 0, .int .i64 0, .int .i64 0, .int .i64 0, .int .i64 0, .int .i64 0, .bool false, .int .i64 0, .int .i64 0, .int .i64 0, .int .i64 0] 40)).setRow w2.heap.size #[.int .i64 p, .string tx, .bool ng, .slice va l.length vc, .int .i64 sc, .int .i64 m.k, .int .i64 m.y, .int .i64 m.m, .int .i64 m.d, .int .i64 m.s, .int .i64 m.n, .bool m.hz, .int .i64 m.z, .int .i64 q.o, .int .i64 q.s, .int .i64 q.n] = W5 at *
    have hf := setRow_heap W5 w.heap.size _ #[.int .i64 0, .string ⟨#[]⟩, .bool false, .slice none 0 0, .int .i64 0, .int .i64 0, .int .i64 0, .int .i64 0, .int .i64 0, .int .i64 0, .int .i64 0, .bool false, .int .i64 0, .int .i64 0, .int .i64 0, .int .i64 0] _ _ hS
    have hb : Below w.heap.size w (W5.setRow w.heap.size #[.int .i64 0, .string ⟨#[]⟩, .bool false, .slice none 0 0, .int .i64 0, .int .i64 0, .int .i64 0, .int .i64 0, .int .i64 0, .int .i64 0, .int .i64 0, .bool false, .int .i64 0, .int .i64 0, .int .i64 0, .int .i64 0]) := below_setRow HT.out.2.2.bel (Nat.le_refl _) _
    exact bodyPost_ret (v := .tuple #[vlV 0 ⟨#[]⟩ false (.slice none 0 0) 0 z0 sp0, .int .i64 2]) (by refine (res2 (X := w.heap.size) Tryz.results21 ?_ hf rfl).trans ?_ <;> rfl) rfl ⟨hb, fun q => (by cases q), fun _ => rfl⟩
end Go.Proofs.YtgaegajcejpmdaaGreatDoor
namespace Go.Proofs.YtgaegajcejpmdaaGreatDoor
open Go.RowKit
set_option linter.unusedVariables false
set_option linter.unusedSimpArgs false

theorem alloc_setRow (w : World) (old cs : Array Value) (t : TypeId) : (w.alloc (.cells old t)).setRow w.heap.size cs = w.alloc (.cells cs t) := by
  have h1 := setRow_heap (w.alloc (.cells old t)) w.heap.size old cs t (0, 0) (nw_heap w _)
  unfold World.setRow World.alloc
  congr 1
  apply Array.ext
  · simp
  · intro i h1 h2
    simp at h1 h2 ⊢
    by_cases h : i = w.heap.size
    · subst h; simp [Array.getElem_modify]
    · have : i < w.heap.size := by omega
      simp [Array.getElem_modify, Array.getElem_push, this, h]
      omega
/-- A number's fields. -/
def KN (n : Dc.Nm) (p : Int) (tx : ByteArray) (ng : Bool) (l : List Int) (sc : Int) (m : Dt.Mo) (q : Dt.Sp) : Prop := p = 10 ∧ tx = ⟨#[]⟩ ∧ ng = n.1 ∧ l = n.2.1 ∧ sc = n.2.2 ∧ m = z0 ∧ q = sp0
theorem wh3 {k : Int} (h0 : 3 ≤ k) (h1 : k ≤ 32) : whS k = 3 := by
  unfold whS
  rw [if_pos (isK_iff.2 (by omega)), if_neg (by omega), if_neg (by omega)]
theorem parseN {n : Dc.Nm} (k : Int) (s : ByteArray) (w : World) (hk0 : 10 ≤ k) (hk1 : k ≤ 23) (hs : s.size ≤ 100000) (hs2 : (Ch.spc s 3).size ≤ 100000) (hw : Lw w) (hq : Dc.parS (Dc.bl (Ch.spc s 3)) = .ok n) : Calls Tryz.prog 21 #[.int .i64 k, .string s] w (PsG (KN n) (cntB k (Dc.bl (Ch.spc s 3)) n) w) := by
  refine parse_of k s w (isK_iff.2 (by omega)) hs (fun W hW => ?_)
  rw [wh3 (by omega) (by omega)]
  refine (readN_ok k _ W hk0 hk1 hs2 (hw.below hW) hq).mono ?_
  rintro e w' ⟨hb, h⟩
  rw [hq] at h
  obtain ⟨rv, rfl, hbt⟩ := h
  exact ⟨hb, _, _, _, _, _, _, _, _, rfl, hbt, fun _ => ⟨rfl, rfl, rfl, rfl, rfl, rfl, rfl⟩⟩
theorem parseNe {x : Int} (k : Int) (s : ByteArray) (w : World) (hk0 : 10 ≤ k) (hk1 : k ≤ 23) (hs : s.size ≤ 100000) (hs2 : (Ch.spc s 3).size ≤ 100000) (hq : Dc.parS (Dc.bl (Ch.spc s 3)) = .error x) : Calls Tryz.prog 21 #[.int .i64 k, .string s] w (PsG (fun _ _ _ _ _ _ _ => True) false w) := by
  refine parse_of k s w (isK_iff.2 (by omega)) hs (fun W hW => ?_)
  rw [wh3 (by omega) (by omega)]
  refine (readN_err k _ W hk0 hk1 hs2 hq).mono ?_
  rintro e w' ⟨hb, h⟩
  rw [hq] at h
  obtain ⟨p, t, ng, sl, sc, m, q, rfl, hbt⟩ := h
  exact ⟨hb, p, t, ng, sl, [], sc, m, q, rfl, hbt, fun q => by cases q⟩
theorem spc_size (s : ByteArray) (how : Int) : (Ch.spc s how).size ≤ s.size := by
  have hsb : ∀ l : List Int, (Ch.sb l).size = l.length := fun l => by simp [Ch.sb, ByteArray.size]
  unfold Ch.spc
  split
  · rw [hsb, List.length_map, Ch.bl_len]; exact Nat.le_refl _
  · split
    · rw [hsb]
      have := Ch.col_len (Ch.bl s) [] false
      rw [Ch.bl_len] at this
      simpa using this
    · exact Nat.le_refl _
set_option maxRecDepth 100000 in
set_option maxHeartbeats 1600000 in
/-- Text, of a number. -/
theorem textN {w : World} {v : Value} {n : Dc.Nm} (tx : ByteArray) (m : Dt.Mo) (q : Dt.Sp) (h : Dc.NmR w v n) : Calls Tryz.prog 24 #[vlV 10 tx n.1 v n.2.2 m q] w fun e w' => e = .returned (.string (Dc.sb (Dc.txS n))) ∧ Below w.heap.size w w' := by
  obtain ⟨va, vc, rfl, _⟩ := h.bt.form
  have hbx := BX.new w 40 (vlL 10 tx n.1 (.slice va n.2.1.length vc) n.2.2 m q)
  have ht := fun W (hW : Below w.heap.size w W) => Dc.text_p (h.below hW)
  have HT : Hid _ := And.intro ht hbx.bel
  clear ht h hbx
  go_enter Tryz.func24, Tryz.ntmps24
  go_wp2_with (go_at_call 32; refine Calls.mono (HT.out.1 _ HT.out.2) ?_; rintro e w9 ⟨rfl, hb9⟩)
  go_ret
  exact ⟨rfl, HT.out.2.trans (hb9.mono HT.out.2.size)⟩
end Go.Proofs.YtgaegajcejpmdaaGreatDoor
namespace Go.Proofs.YtgaegajcejpmdaaGreatDoor
open Go.RowKit
set_option linter.unusedVariables false
set_option linter.unusedSimpArgs false

/-- Is a text such a name as its kind asks for? -/
def nmdB (k : Int) (l : List Int) : Bool := if k = 4 then Ch.tokB l else if k = 5 then Ch.nameB l else if k = 6 ∨ k = 7 ∨ k = 8 then Ch.ncB l else true
theorem named_p (k : Int) (s : ByteArray) (w : World) (hs : s.size ≤ maxLen) : Calls Tryz.prog 57 #[.int .i64 k, .string s] w fun e w' => e = .returned (.bool (nmdB k (Ch.bl s))) ∧ Below w.heap.size w w' := by
  rcases (by omega : k = 4 ∨ k = 5 ∨ k = 6 ∨ k = 7 ∨ k = 8 ∨ (k ≠ 4 ∧ k ≠ 5 ∧ k ≠ 6 ∧ k ≠ 7 ∧ k ≠ 8)) with rfl | rfl | rfl | rfl | rfl | ⟨h4, h5, h6, h7, h8⟩
  · go_enter Tryz.func57, Tryz.ntmps57
    go_wp2_with (go_at_call 101; refine (Ch.tok_any _ _ hs).mono ?_; rintro e w9 ⟨rfl, hb9⟩)
    go_ret
    exact ⟨rfl, hb9⟩
  · go_enter Tryz.func57, Tryz.ntmps57
    go_wp2_with (go_at_call 102; refine (Ch.name_any _ _ hs).mono ?_; rintro e w9 ⟨rfl, hb9⟩)
    go_ret
    exact ⟨rfl, hb9⟩
  · go_enter Tryz.func57, Tryz.ntmps57
    go_wp2_with (go_at_call 103; refine (Ch.nc_any _ _ hs).mono ?_; rintro e w9 ⟨rfl, hb9⟩)
    go_ret
    exact ⟨rfl, hb9⟩
  · go_enter Tryz.func57, Tryz.ntmps57
    go_wp2_with (go_at_call 103; refine (Ch.nc_any _ _ hs).mono ?_; rintro e w9 ⟨rfl, hb9⟩)
    go_ret
    exact ⟨rfl, hb9⟩
  · go_enter Tryz.func57, Tryz.ntmps57
    go_wp2_with (go_at_call 103; refine (Ch.nc_any _ _ hs).mono ?_; rintro e w9 ⟨rfl, hb9⟩)
    go_ret
    exact ⟨rfl, hb9⟩
  · have HE : Hid (nmdB k (Ch.bl s) = true) := by show _ = _; unfold nmdB; rw [if_neg h4, if_neg h5, if_neg (by omega)]
    have f4 : (k == 4) = false := by simpa using h4
    have f5 : (k == 5) = false := by simpa using h5
    have f6 : (k == 6) = false := by simpa using h6
    have f7 : (k == 7) = false := by simpa using h7
    have f8 : (k == 8) = false := by simpa using h8
    clear h4 h5 h6 h7 h8
    go_enter Tryz.func57, Tryz.ntmps57
    go_wp2_with fail
    go_ret
    exact ⟨ret_b HE.out.symm, Below.refl _ _⟩
/-- A boolean's one text. -/
def trS (s : ByteArray) : Option ByteArray :=
  if (s.toList == [116, 114, 117, 101]) = true ∨ (s.toList == [49]) = true then some ⟨#[116, 114, 117, 101]⟩ else if (s.toList == [102, 97, 108, 115, 101]) = true ∨ (s.toList == [48]) = true then some ⟨#[102, 97, 108, 115, 101]⟩ else none
theorem truth_p (s : ByteArray) (w : World) : Calls Tryz.prog 58 #[.string s] w fun e w' => e = .returned (.tuple #[.string ((trS s).getD ⟨#[]⟩), .bool (trS s).isSome]) ∧ w' = w := by
  go_enter Tryz.func58, Tryz.ntmps58
  go_wp2_with fail
  all_goals
    go_ret2
    refine ⟨?_, rfl⟩
    unfold trS
    simp_all
/-- A text's fields. -/
def KT (p0 : Int) (t : ByteArray) (p : Int) (tx : ByteArray) (ng : Bool) (l : List Int) (sc : Int) (m : Dt.Mo) (q : Dt.Sp) : Prop := p = p0 ∧ tx = t ∧ ng = false ∧ l = [] ∧ sc = 0 ∧ m = z0 ∧ q = sp0
theorem pr1 {k : Int} (h0 : 1 ≤ k) (h1 : k ≤ 8) : prS k = 1 := by
  obtain ⟨n, rfl⟩ : ∃ n : Nat, k = n := ⟨k.toNat, by omega⟩
  rcases (by omega : n = 1 ∨ n = 2 ∨ n = 3 ∨ n = 4 ∨ n = 5 ∨ n = 6 ∨ n = 7 ∨ n = 8) with rfl | rfl | rfl | rfl | rfl | rfl | rfl | rfl <;> rfl
theorem prim1 (k : Int) (h0 : 1 ≤ k) (h1 : k ≤ 8) (w : World) : Calls Tryz.prog 15 #[.int .i64 k] w fun e w' => e = .returned (.int .i64 1) ∧ w' = w := by
  have := prim_k k w
  rwa [pr1 h0 h1] at this
/-- A time's or a span's fields. -/
def KV (p0 : Int) (m0 : Dt.Mo) (q0 : Dt.Sp) (p : Int) (tx : ByteArray) (ng : Bool) (l : List Int) (sc : Int) (m : Dt.Mo) (q : Dt.Sp) : Prop := p = p0 ∧ tx = ⟨#[]⟩ ∧ ng = false ∧ l = [] ∧ sc = 0 ∧ m = m0 ∧ q = q0
theorem pr24 {k : Int} (h0 : 24 ≤ k) (h1 : k ≤ 31) : prS k = k := by
  obtain ⟨n, rfl⟩ : ∃ n : Nat, k = n := ⟨k.toNat, by omega⟩
  rcases (by omega : n = 24 ∨ n = 25 ∨ n = 26 ∨ n = 27 ∨ n = 28 ∨ n = 29 ∨ n = 30 ∨ n = 31) with rfl | rfl | rfl | rfl | rfl | rfl | rfl | rfl <;> rfl
theorem btr0 {w : World} : Dc.BtR w (.slice none 0 0) [] := btr_nil (Nat.zero_le _)
end Go.Proofs.YtgaegajcejpmdaaGreatDoor
namespace Go.Proofs.YtgaegajcejpmdaaGreatDoor
open Go.RowKit
set_option linter.unusedVariables false
set_option linter.unusedSimpArgs false

set_option maxRecDepth 100000 in
set_option maxHeartbeats 3200000 in
theorem readT (k : Int) (s : ByteArray) (w : World) (hk0 : 1 ≤ k) (hk1 : k ≤ 8) (hs : s.size ≤ 100000) : Calls Tryz.prog 37 #[.int .i64 k, .string s] w (RdG (KT 1 s) (nmdB k (Ch.bl s)) w) := by
  have hbx := BX.new w 40 [.int .i64 1, .string s, .bool false, .slice none 0 0, .int .i64 0, .int .i64 0, .int .i64 0, .int .i64 0, .int .i64 0, .int .i64 0, .int .i64 0, .bool false, .int .i64 0, .int .i64 0, .int .i64 0, .int .i64 0]
  have hpr := fun W => prim1 k hk0 hk1 W
  have hnm := fun W => named_p k s W (by unfold maxLen; omega)
  have HX : Hid _ := hbx
  clear hbx hs hk0 hk1
  generalize nmdB k (Ch.bl s) = cb at *
  go_enter Tryz.func37, Tryz.ntmps37
  go_upto_region 7 with (go_at_call 15; refine (hpr _).mono ?_; rintro e w1 ⟨rfl, hw1⟩; have hw2 := hw1.symm; clear hw1; subst hw2)
  have hblk := HX.out.blk
  generalize w.alloc (.cells #[.int .i64 1, .string s, .bool false, .slice none 0 0, .int .i64 0, .int .i64 0, .int .i64 0, .int .i64 0, .int .i64 0, .int .i64 0, .int .i64 0, .bool false, .int .i64 0, .int .i64 0, .int .i64 0, .int .i64 0] 40) = W3 at *
  refine wp_region_held_drew (S := fun W => W.heap[w.heap.size]? = some (.cells [.int .i64 1, .string s, .bool false, .slice none 0 0, .int .i64 0, .int .i64 0, .int .i64 0, .int .i64 0, .int .i64 0, .int .i64 0, .int .i64 0, .bool false, .int .i64 0, .int .i64 0, .int .i64 0, .int .i64 0].toArray 40 (0, 0))) (by kernel_rfl) hblk (fun hHeld => ?_)
  refine wpAnyH_take (i := 0) (v := .agg #[.int .i64 1, .string s, .bool false, .slice none 0 0, .int .i64 0, .int .i64 0, .int .i64 0, .int .i64 0, .int .i64 0, .int .i64 0, .int .i64 0, .bool false, .int .i64 0, .int .i64 0, .int .i64 0, .int .i64 0]) rfl (by kernel_rfl) (by kernel_rfl) (by kernel_rfl) (fun _ _ _ h => h) (yieldsIf_load_mid (by kernel_rfl) 40 _ rfl w.heap.size 0 rfl [.int .i64 1, .string s, .bool false, .slice none 0 0, .int .i64 0, .int .i64 0, .int .i64 0, .int .i64 0, .int .i64 0, .int .i64 0, .int .i64 0, .bool false, .int .i64 0, .int .i64 0, .int .i64 0, .int .i64 0] _ (fun W hW => rng0 hW) Tryz.underlying40 rfl (by kernel_rfl)) (by assumption) ?_
  try simp only [Act.put, List.getElem_toArray, List.getElem_cons_zero, List.getElem_cons_succ, List.setIfInBounds_toArray, List.set_cons_zero, List.set_cons_succ]
  refine wpAnyH_take (i := 1) (v := (.int .i64 k)) rfl (by kernel_rfl) (by kernel_rfl) (by kernel_rfl) (fun _ _ _ h => h) (Or.inl ⟨by kernel_rfl, fun w' hSw => (by (try dsimp only at hSw); go_simp)⟩) (by assumption) ?_
  try simp only [Act.put, List.getElem_toArray, List.getElem_cons_zero, List.getElem_cons_succ, List.setIfInBounds_toArray, List.set_cons_zero, List.set_cons_succ]
  refine wpAnyH_take (i := 2) (v := (.string s)) rfl (by kernel_rfl) (by kernel_rfl) (by kernel_rfl) (fun _ _ _ h => h) (Or.inl ⟨by kernel_rfl, fun w' hSw => (by (try dsimp only at hSw); go_simp)⟩) (by assumption) ?_
  try simp only [Act.put, List.getElem_toArray, List.getElem_cons_zero, List.getElem_cons_succ, List.setIfInBounds_toArray, List.set_cons_zero, List.set_cons_succ]
  refine wpAnyH_ready (rs := [3]) (by kernel_rfl) (by simp) ?_
  refine AllReadyH.cons rfl (fun K hK => ?_) AllReadyH.nil
  go_simp
  refine Calls.mono (hnm _) ?_
  rintro e w9 ⟨rfl, hb9⟩
  have hbb : Below W3.heap.size W3 w9 := (Dc.Below.drewN' 1).trans hb9
  have hblk9 := (hbb.block _ (Dc.lt_of hblk)).trans hblk
  have HB9 : Hid _ := hbb
  clear hbb hb9 hHeld
  go_wp2_with fail
  refine hK.out _ _ hblk9 (fun hHeld => ?_)
  clear hK K
  try simp only [Act.put, List.getElem_toArray, List.getElem_cons_zero, List.getElem_cons_succ, List.setIfInBounds_toArray, List.set_cons_zero, List.set_cons_succ]
  refine wpAnyH_ready (rs := [4]) (by kernel_rfl) (by simp) ?_
  refine AllReadyH.cons rfl (fun K hK => ?_) AllReadyH.nil
  rw [if_pos (by kernel_rfl)]
  refine wp_store_row 40 _ _ rfl w.heap.size _ rfl rfl 40 _ hHeld (by kernel_rfl) rfl (by simp [Value.oneCell']) ?_
  rw [setRow_self _ _ _ _ _ hHeld]
  refine hK.out _ _ hHeld (fun hHeld => ?_)
  clear hK K
  try simp only [Act.put, List.getElem_toArray, List.getElem_cons_zero, List.getElem_cons_succ, List.setIfInBounds_toArray, List.set_cons_zero, List.set_cons_succ]
  refine wpAnyH_take (i := 5) (v := (.bool cb)) rfl (by kernel_rfl) (by kernel_rfl) (by kernel_rfl) (fun _ _ _ h => h) (Or.inl ⟨by kernel_rfl, fun w' hSw => (by (try dsimp only at hSw); go_simp)⟩) (by assumption) ?_
  try simp only [Act.put, List.getElem_toArray, List.getElem_cons_zero, List.getElem_cons_succ, List.setIfInBounds_toArray, List.set_cons_zero, List.set_cons_succ]
  refine wpAnyH_done (by kernel_rfl) ?_ _
  have HY : Hid _ := HX.out.bel.trans (HB9.out.mono HX.out.lsz)
  have HHe : Hid _ := hHeld
  clear hHeld hblk9 hblk
  go_wp2_with fail
  exact bodyPost_ret (v := .tuple #[vlV 1 s false (.slice none 0 0) 0 z0 sp0, .bool cb]) (by refine (res2 (X := w.heap.size) Tryz.results37 ?_ HHe.out rfl).trans ?_ <;> rfl) rfl ⟨HY.out, _, _, _, _, [], _, _, _, rfl, btr0, fun _ => ⟨rfl, rfl, rfl, rfl, rfl, rfl, rfl⟩⟩
end Go.Proofs.YtgaegajcejpmdaaGreatDoor
namespace Go.Proofs.YtgaegajcejpmdaaGreatDoor
open Go.RowKit
set_option linter.unusedVariables false
set_option linter.unusedSimpArgs false

theorem prim9 (w : World) : Calls Tryz.prog 15 #[.int .i64 9] w fun e w' => e = .returned (.int .i64 9) ∧ w' = w := prim_k 9 w
set_option maxRecDepth 100000 in
set_option maxHeartbeats 3200000 in
theorem readB (s : ByteArray) (w : World) : Calls Tryz.prog 37 #[.int .i64 9, .string s] w (RdG (KT 9 ((trS s).getD ⟨#[]⟩)) (trS s).isSome w) := by
  have htr := fun W => truth_p s W
  generalize (trS s).getD ⟨#[]⟩ = tb at *
  generalize (trS s).isSome = cb at *
  have hbx := BX.new w 40 [.int .i64 9, .string tb, .bool false, .slice none 0 0, .int .i64 0, .int .i64 0, .int .i64 0, .int .i64 0, .int .i64 0, .int .i64 0, .int .i64 0, .bool false, .int .i64 0, .int .i64 0, .int .i64 0, .int .i64 0]
  have hA := nw_heap w (.cells #[.int .i64 9, .string tb, .bool false, .slice none 0 0, .int .i64 0, .int .i64 0, .int .i64 0, .int .i64 0, .int .i64 0, .int .i64 0, .int .i64 0, .bool false, .int .i64 0, .int .i64 0, .int .i64 0, .int .i64 0] 40)
  have HX : Hid _ := hbx
  clear hbx
  go_enter Tryz.func37, Tryz.ntmps37
  go_wp2_with (first | (go_at_call 15; refine (prim9 _).mono ?_; rintro e w1 ⟨rfl, hw1⟩; have hw2 := hw1.symm; clear hw1; subst hw2) | (go_at_call 58; refine (htr _).mono ?_; rintro e w1 ⟨rfl, hw1⟩; have hw2 := hw1.symm; clear hw1; subst hw2) | (refine wpList_load_row rfl 40 _ rfl w.heap.size rfl 40 _ (0, 0) _ hA Tryz.underlying40 rfl (by kernel_rfl) ?_) | (refine wpList_store_row rfl 40 _ _ rfl w.heap.size _ rfl rfl 40 _ hA (by kernel_rfl) rfl (by simp [Value.oneCell']) ?_; rw [alloc_setRow]))
  exact bodyPost_ret (v := .tuple #[vlV 9 tb false (.slice none 0 0) 0 z0 sp0, .bool cb]) (by refine (res2 (X := w.heap.size) Tryz.results37 ?_ HX.out.blk rfl).trans ?_ <;> rfl) rfl ⟨HX.out.bel, _, _, _, _, [], _, _, _, rfl, btr0, fun _ => ⟨rfl, rfl, rfl, rfl, rfl, rfl, rfl⟩⟩
end Go.Proofs.YtgaegajcejpmdaaGreatDoor
