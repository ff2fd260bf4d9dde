/- Joined: HChRep, HK11, HK12, HK20, HK21t, HK21b, HDtCal0, HDtMem. -/
import Derived.Test.YtgaegajcejpmdaaGreatDoorHJ21
import Derived.Test.YtgaegajcejpmdaaGreatDoorHJ17
import Derived.Laws.CopyOwn
import Derived.Test.YtgaegajcejpmdaaGreatDoorHJ18
import Derived.Test.YtgaegajcejpmdaaGreatDoorHJ20
import Derived.Laws.Tables
import Derived.Laws.CopyRow
import Derived.Deep.MidRow
import Derived.Deep.RegionHeld3
import Derived.Deep.DeepCutAuto
import Derived.Test.YtgaegajcejpmdaaGreatDoorProg
import Derived.WalkKit
import Derived.WalkSpells
import Derived.WalkLawsBesides
import Derived.Below
import Derived.MapKept
import Derived.Carry
import Derived.BigQuiet
import Derived.Deep.QuietTactic
import Derived.Deep.LoopGhost
import Derived.Laws.IdiomStrings
import Derived.Laws.StructEq
import Derived.Lib.Bytealg
namespace Go.Proofs.YtgaegajcejpmdaaGreatDoor.Ch
open Go.RowKit
set_option linter.unusedVariables false

def rp (c : Int) : Int := if isWhite c = true then 32 else c
theorem rp_bd (c : Int) (h : 0 ≤ c ∧ c < 256) : 0 ≤ rp c ∧ rp c < 256 := by unfold rp; split <;> omega
theorem rp_getD (l : List Int) (j : Nat) (h : j < l.length) : (l.map rp).getD j 0 = rp (l.getD j 0) := by
  simp [List.getD_eq_getElem?_getD, h]
theorem conv_free (s : ByteArray) (w : World) (hs : s.size ≤ maxLen) : ∃ cap w1, s.size ≤ cap ∧ cap ≤ maxLen ∧
    (convert 9 32 (.string s)).run Tryz.prog w = .ok (.slice (some ⟨w.heap.size, 0, none⟩) s.size cap) w1 ∧ Below w.heap.size w w1 ∧
    (∀ j, j < s.size → w1.cell? ⟨w.heap.size, j, none⟩ = some (.int .u8 ((bl s).getD j 0))) ∧ ∀ j, j < s.size → w1.frozen? ⟨w.heap.size, j, none⟩ = false := by
  refine ⟨grownCap w s.size 0 5, _, grownCap_ge _ _ _ _, grownCap_le_maxLen _ _ _ _ hs, run_bytes_of_string w 9 32 5 s Tryz.underlying9 Tryz.underlying32 Tryz.underlying5, ?_, ?_, ?_⟩
  · exact (Below.refl _ _).drew.alloc (Nat.le_refl _) _
  · intro i hi
    have h := World.cell?_alloc_mark w.drew (bytesRow s (grownCap w s.size 0 5)) 5 ((bytesRow s (grownCap w s.size 0 5)).size, (bytesRow s (grownCap w s.size 0 5)).size + 1) i
    refine h.trans ?_
    rw [bytesRow_at s _ i hi]
    simp [bl, List.getD_eq_getElem?_getD, hi]
  · intro i hi
    have hge := grownCap_ge w s.size 0 5
    have hsz : (bytesRow s (grownCap w s.size 0 5)).size = grownCap w s.size 0 5 := by
      unfold bytesRow
      rw [Array.size_append, Array.size_map, Array.size_replicate]
      have : s.data.size = s.size := rfl
      omega
    unfold World.frozen?
    have hh : (w.drew.alloc (.cells (bytesRow s (grownCap w s.size 0 5)) 5 ((bytesRow s (grownCap w s.size 0 5)).size, (bytesRow s (grownCap w s.size 0 5)).size + 1))).heap[w.heap.size]? = some (.cells (bytesRow s (grownCap w s.size 0 5)) 5 ((bytesRow s (grownCap w s.size 0 5)).size, (bytesRow s (grownCap w s.size 0 5)).size + 1)) := by
      show (w.heap.push _)[w.heap.size]? = _
      simp
    rw [hh]
    simp
    omega

def RepRel (w : World) (n : Nat) (l : List Int) (i : Value) (wr : World) : Prop :=
  ∃ k : Nat, k ≤ n ∧ i = .int .i64 k ∧ Below w.heap.size w wr ∧ (∀ j, j < n → wr.frozen? ⟨w.heap.size, j, none⟩ = false) ∧
    ∀ j, j < n → wr.cell? ⟨w.heap.size, j, none⟩ = some (.int .u8 (if j < k then rp (l.getD j 0) else l.getD j 0))

set_option maxHeartbeats 400000 in
theorem replace_any (s : ByteArray) (w : World) (hs : s.size ≤ 100000) :
    Calls Tryz.prog 63 #[.string s] w fun e w' => e = .returned (.string (sb ((bl s).map rp))) ∧ Below w.heap.size w w' := by
  obtain ⟨cap, w1, hc, hcm, hrun, hbel, hcell, hfr⟩ := conv_free s w (by unfold maxLen; omega)
  have hstart : RepRel w s.size (bl s) (.int .i64 0) w1 := ⟨0, Nat.zero_le _, rfl, hbel, hfr, fun j hj => by rw [hcell j hj]; simp⟩
  have HS : Hid _ := hstart
  have HBd : Hid _ := bl_bd s
  have HL : Hid _ := bl_len s
  clear hstart hbel hcell hfr hc hcm
  generalize bl s = l at *
  go_enter Tryz.func63, Tryz.ntmps63
  go_wp2
  go_loopw [10] (fun i wr => RepRel w s.size l i wr) (fun i _ => s.size - (intOf i).toNat)
  case atStart => exact HS.out
  case round =>
    obtain ⟨k, hk, rfl, hbel, hfr, hcell⟩ := hrel
    have HB : Hid _ := hbel
    have HF : Hid _ := hfr
    have HC : Hid _ := hcell
    clear hbel HS hrun
    by_cases hlt : k < s.size
    · have hfk := hfr k hlt
      have hck := hcell k hlt
      rw [if_neg (Nat.lt_irrefl k)] at hck
      have hb1 := (HBd.out k).1
      have hb2 := (HBd.out k).2
      clear hfr hcell
      by_cases hw : isWhite (l.getD k 0) = true
      · have hr : Hid (rp (l.getD k 0) = 32) := by show _ = _; unfold rp; rw [if_pos hw]
        generalize hx : l.getD k 0 = c at *
        have HX : Hid _ := hx
        clear hx
        go_wp2_with (go_at_call 116; refine (white_any _ _).mono ?_; rintro e w' ⟨rfl, rfl⟩)
        go_roundw
        case rel =>
          refine ⟨k + 1, by omega, by go_num, HB.out.setCell (Nat.le_refl _) _, fun j hj => by simpa using HF.out j hj, fun j hj => ?_⟩
          by_cases e : j = k
          · subst e
            rw [World.cell?_setCell_same' _ _ _ (by rw [hck]; rfl), if_pos (by omega), HX.out, hr.out]
          · rw [World.cell?_setCell_other _ _ _ _ (addr_ne _ (fun h => e h.symm)), HC.out j hj]
            by_cases g : j < k
            · rw [if_pos g, if_pos (by omega)]
            · rw [if_neg g, if_neg (by omega)]
        case measure => simp [intOf]; omega
      · have hw' : isWhite (l.getD k 0) = false := by simpa using hw
        have hr : Hid (rp (l.getD k 0) = l.getD k 0) := by show _ = _; unfold rp; rw [if_neg hw]
        clear hw
        generalize hx : l.getD k 0 = c at *
        have HX : Hid _ := hx
        clear hx
        go_wp2_with (go_at_call 116; refine (white_any _ _).mono ?_; rintro e w' ⟨rfl, rfl⟩)
        go_roundw
        case rel =>
          refine ⟨k + 1, by omega, by go_num, HB.out, HF.out, fun j hj => ?_⟩
          rw [HC.out j hj]
          by_cases g : j < k
          · rw [if_pos g, if_pos (by omega)]
          · rw [if_neg g]
            by_cases e : j = k
            · subst e; rw [if_pos (by omega), HX.out, hr.out]
            · rw [if_neg (by omega)]
        case measure => simp [intOf]; omega
    · have hcv := conv_string w.heap.size 0 cap (l.map rp) wr (fun j hj => by
        rw [List.length_map] at hj
        rw [Nat.zero_add, HC.out j (by rw [← HL.out]; exact hj), if_pos (by rw [HL.out] at hj; omega), rp_getD l j hj])
      rw [List.length_map, HL.out] at hcv
      clear hfr hcell
      go_wp2
      go_ret
      exact ⟨rfl, HB.out⟩

def spc (s : ByteArray) (how : Int) : ByteArray := if how = 2 then sb ((bl s).map rp) else if how = 3 then sb (col (bl s) [] false) else s
set_option maxHeartbeats 400000 in
theorem space_any (s : ByteArray) (how : Int) (w : World) (hs : s.size ≤ 100000) :
    Calls Tryz.prog 38 #[.string s, .int .i64 how] w fun e w' => e = .returned (.string (spc s how)) ∧ Below w.heap.size w w' := by
  by_cases h2 : how = 2
  · subst h2
    go_enter Tryz.func38, Tryz.ntmps38
    go_wp2_with (go_at_call 63; refine (replace_any _ _ hs).mono ?_; rintro e w' ⟨rfl, hb⟩)
    go_ret
    exact ⟨rfl, ‹_›⟩
  · by_cases h3 : how = 3
    · subst h3
      exact space_col s w hs
    · have e2 : (how == 2) = false := beq_eq_false_iff_ne.2 h2
      have e3 : (how == 3) = false := beq_eq_false_iff_ne.2 h3
      have hq : Hid (spc s how = s) := by show _ = _; unfold spc; rw [if_neg h2, if_neg h3]
      clear h2 h3
      go_enter Tryz.func38, Tryz.ntmps38
      go_wp2
      go_ret
      refine ⟨?_, Below.refl _ _⟩
      rw [hq.out]; rfl

end Go.Proofs.YtgaegajcejpmdaaGreatDoor.Ch
namespace Go.Proofs.YtgaegajcejpmdaaGreatDoor
open Go.RowKit
set_option linter.unusedVariables false
set_option linter.unusedSimpArgs false

/-- What read leaves: a value with a row of digits; where it is right, KK tells of it. -/
def RdG (KK : Int → ByteArray → Bool → List Int → Int → Dt.Mo → Dt.Sp → Prop) (ok : Bool) (w : World) (e : Ending) (w' : World) : Prop :=
  Below w.heap.size w w' ∧ ∃ p tx ng sl l sc m q, e = .returned (.tuple #[vlV p tx ng sl sc m q, .bool ok]) ∧ Dc.BtR w' sl l ∧ (ok = true → KK p tx ng l sc m q)
/-- What Parse leaves. -/
def PsG (KK : Int → ByteArray → Bool → List Int → Int → Dt.Mo → Dt.Sp → Prop) (ok : Bool) (w : World) (e : Ending) (w' : World) : Prop :=
  Below w.heap.size w w' ∧ (ok = true → ∃ p tx ng sl l sc m q, e = .returned (.tuple #[vlV p tx ng sl sc m q, .int .i64 0]) ∧ Dc.BtR w' sl l ∧ KK p tx ng l sc m q) ∧ (ok = false → e = .returned (.tuple #[vlV 0 ⟨#[]⟩ false (.slice none 0 0) 0 z0 sp0, .int .i64 2]))
theorem no_u8 {p sc : Int} {tx : ByteArray} {ng : Bool} {a : Option Addr} {x y : Nat} {m : Dt.Mo} {q : Dt.Sp} : ∀ u ∈ vlL p tx ng (.slice a x y) sc m q, ∀ d, u ≠ .int .u8 d := by
  intro u hu d e
  subst e
  simp at hu
set_option maxRecDepth 100000 in
set_option maxHeartbeats 6400000 in
theorem parse_of {KK : Int → ByteArray → Bool → List Int → Int → Dt.Mo → Dt.Sp → Prop} {ok : Bool} (k : Int) (s : ByteArray) (w : World) (hk : isK k = true) (hs : s.size ≤ 100000)
    (hrd : ∀ W, Below w.heap.size w W → Calls Tryz.prog 37 #[.int .i64 k, .string (Ch.spc s (whS k))] W (RdG KK ok W)) : Calls Tryz.prog 21 #[.int .i64 k, .string s] w (PsG KK ok w) := by
  have hbx := BX.new w 40 (vlL 0 ⟨#[]⟩ false (.slice none 0 0) 0 z0 sp0)
  have HX : Hid _ := hbx
  have HR : Hid _ := hrd
  have hsp := fun W => Ch.space_any s (whS k) W hs
  clear hbx hrd hs
  generalize Ch.spc s (whS k) = t at *
  have hwk := fun W => white_k k W
  generalize whS k = wk at *
  go_enter Tryz.func21, Tryz.ntmps21
  go_wp2_with (first | (go_at_call 33; refine (known_k _ _).mono ?_; rintro e w' ⟨rfl, hw1⟩; have hw2 := hw1.symm; clear hw1; subst hw2) | (go_at_call 17; refine (hwk _).mono ?_; rintro e w' ⟨rfl, hw1⟩; have hw2 := hw1.symm; clear hw1; subst hw2) | (go_at_call 38; refine (hsp _).mono ?_; rintro e w1 ⟨rfl, hb1⟩; have hx1 := HX.out.below hb1; have HX1 : Hid _ := hx1; clear hb1 hx1))
  refine Calls.mono (HR.out _ HX1.out.bel) ?_
  rintro e w2 ⟨hb2, p, tx, ng, sl, l, sc, m, q, rfl, hbt, hkk⟩
  have hx2 := HX1.out.below hb2
  obtain ⟨va, vc, rfl, _⟩ := hbt.form
  have hlt2 : w.heap.size < w2.heap.size := Dc.lt_of hx2.blk
  have hA := nw_heap w2 (.cells #[.int .i64 0, .string ⟨#[]⟩, .bool false, .slice none 0 0, .int .i64 0, .int .i64 0, .int .i64 0, .int .i64 0, .int .i64 0, .int .i64 0, .int .i64 0, .bool false, .int .i64 0, .int .i64 0, .int .i64 0, .int .i64 0] 40)
  have hL : ((w2.alloc (.cells #[.int .i64 0, .string ⟨#[]⟩, .bool false, .slice none 0 0, .int .i64 0, .int .i64 0, .int .i64 0, .int .i64 0, .int .i64 0, .int .i64 0, .int .i64 0, .bool false, .int .i64 0, .int .i64 0, .int .i64 0, .int .i64 0] 40)).setRow w2.heap.size #[.int .i64 p, .string tx, .bool ng, .slice va l.length vc, .int .i64 sc, .int .i64 m.k, .int .i64 m.y, .int .i64 m.m, .int .i64 m.d, .int .i64 m.s, .int .i64 m.n, .bool m.hz, .int .i64 m.z, .int .i64 q.o, .int .i64 q.s, .int .i64 q.n]).heap[w2.heap.size]? = some (.cells #[.int .i64 p, .string tx, .bool ng, .slice va l.length vc, .int .i64 sc, .int .i64 m.k, .int .i64 m.y, .int .i64 m.m, .int .i64 m.d, .int .i64 m.s, .int .i64 m.n, .bool m.hz, .int .i64 m.z, .int .i64 q.o, .int .i64 q.s, .int .i64 q.n] 40 (0, 0)) := setRow_heap _ _ _ _ _ _ hA
  have hB5 : Below w2.heap.size w2 ((w2.alloc (.cells #[.int .i64 0, .string ⟨#[]⟩, .bool false, .slice none 0 0, .int .i64 0, .int .i64 0, .int .i64 0, .int .i64 0, .int .i64 0, .int .i64 0, .int .i64 0, .bool false, .int .i64 0, .int .i64 0, .int .i64 0, .int .i64 0] 40)).setRow w2.heap.size #[.int .i64 p, .string tx, .bool ng, .slice va l.length vc, .int .i64 sc, .int .i64 m.k, .int .i64 m.y, .int .i64 m.m, .int .i64 m.d, .int .i64 m.s, .int .i64 m.n, .bool m.hz, .int .i64 m.z, .int .i64 q.o, .int .i64 q.s, .int .i64 q.n]) := below_setRow ((Below.refl _ _).alloc (Nat.le_refl _) _) (Nat.le_refl _) _
  have hx5 := hx2.below hB5
  have hS : ((w2.alloc (.cells #[.int .i64 0, .string ⟨#[]⟩, .bool false, .slice none 0 0, .int .i64 0, .int .i64 0, .int .i64 0, .int .i64 0, .int .i64 0, .int .i64 0, .int .i64 0, .bool false, .int .i64 0, .int .i64 0, .int .i64 0, .int .i64 0] 40)).setRow w2.heap.size #[.int .i64 p, .string tx, .bool ng, .slice va l.length vc, .int .i64 sc, .int .i64 m.k, .int .i64 m.y, .int .i64 m.m, .int .i64 m.d, .int .i64 m.s, .int .i64 m.n, .bool m.hz, .int .i64 m.z, .int .i64 q.o, .int .i64 q.s, .int .i64 q.n]).heap[w.heap.size]? = some (.cells #[.int .i64 0, .string ⟨#[]⟩, .bool false, .slice none 0 0, .int .i64 0, .int .i64 0, .int .i64 0, .int .i64 0, .int .i64 0, .int .i64 0, .int .i64 0, .bool false, .int .i64 0, .int .i64 0, .int .i64 0, .int .i64 0] 40 (0, 0)) := hx5.blk
  have HT : Hid _ := And.intro (Dc.BtR.below hbt hB5) (And.intro hkk hx5)
  clear hx2 hbt hkk hb2 HX HX1 HR hsp hwk hx5 hB5
  cases ok with
  | true =>
    go_wp2_with (first | (refine wpList_store_row rfl 40 _ _ rfl w2.heap.size _ rfl rfl 40 _ hA (by kernel_rfl) rfl (by simp [Value.oneCell']) ?_) | (refine wpList_load_row rfl 40 _ rfl w2.heap.size rfl 40 _ (0, 0) _ hL Tryz.underlying40 rfl (by kernel_rfl) ?_) | (refine wpList_store_row rfl 40 _ _ rfl w.heap.size _ rfl rfl 40 _ hS (by kernel_rfl) rfl (by simp [Value.oneCell']) ?_))
    generalize (w2.alloc (.cells #[.int .i64 0, .string ⟨#[]⟩, .bool false, .slice none 0 0, .int .i64 0, .int .i64 0, .int .i64 0, .int .i64 0, .int .i64 0, .int .i64 0, .int .i64 0, .bool false, .int .i64 0, .int .i64 0, .int .i64 0, .int .i64 0] 40)).setRow w2.heap.size #[.int .i64 p, .string tx, .bool ng, .slice va l.length vc, .int .i64 sc, .int .i64 m.k, .int .i64 m.y, .int .i64 m.m, .int .i64 m.d, .int .i64 m.s, .int .i64 m.n, .bool m.hz, .int .i64 m.z, .int .i64 q.o, .int .i64 q.s, .int .i64 q.n] = W5 at *
    have hf := setRow_heap W5 w.heap.size _ #[.int .i64 p, .string tx, .bool ng, .slice va l.length vc, .int .i64 sc, .int .i64 m.k, .int .i64 m.y, .int .i64 m.m, .int .i64 m.d, .int .i64 m.s, .int .i64 m.n, .bool m.hz, .int .i64 m.z, .int .i64 q.o, .int .i64 q.s, .int .i64 q.n] _ _ hS
    have hb : Below w.heap.size w (W5.setRow w.heap.size #[.int .i64 p, .string tx, .bool ng, .slice va l.length vc, .int .i64 sc, .int .i64 m.k, .int .i64 m.y, .int .i64 m.m, .int .i64 m.d, .int .i64 m.s, .int .i64 m.n, .bool m.hz, .int .i64 m.z, .int .i64 q.o, .int .i64 q.s, .int .i64 q.n]) := below_setRow HT.out.2.2.bel (Nat.le_refl _) _
    have hbt : Dc.BtR (W5.setRow w.heap.size #[.int .i64 p, .string tx, .bool ng, .slice va l.length vc, .int .i64 sc, .int .i64 m.k, .int .i64 m.y, .int .i64 m.m, .int .i64 m.d, .int .i64 m.s, .int .i64 m.n, .bool m.hz, .int .i64 m.z, .int .i64 q.o, .int .i64 q.s, .int .i64 q.n]) (.slice va l.length vc) l := Dc.BtR.kept HT.out.1 (Nat.le_of_eq (setRow_size _ _ _).symm) (fun k hk => setRow_other _ _ _ _ hk) (btr_apart HT.out.1 HT.out.2.2.blk no_u8)
    exact bodyPost_ret (v := .tuple #[vlV p tx ng (.slice va l.length vc) sc m q, .int .i64 0]) (by refine (res2 (X := w.heap.size) Tryz.results21 ?_ hf rfl).trans ?_ <;> rfl) rfl ⟨hb, fun _ => ⟨p, tx, ng, _, l, sc, m, q, rfl, hbt, HT.out.2.1 trivial⟩, fun q => by cases q⟩
  | false =>
    go_wp2_with (first | (refine wpList_store_row rfl 40 _ _ rfl w2.heap.size _ rfl rfl 40 _ hA (by kernel_rfl) rfl (by simp [Value.oneCell']) ?_) | (refine wpList_store_row rfl 40 _ _ rfl w.heap.size _ rfl rfl 40 _ hS (by kernel_rfl) rfl (by simp [Value.oneCell']) ?_))
    generalize (w2.alloc (.cells #[.int .i64 0, .string ⟨#[]⟩, .bool false, .slice none 0 0, .int .i64 0, .int .i64 0, .int .i64 0, .int .i64 0, .int .i64 0, .int .i64 0, .int .i64 0, .bool false, .int .i64 0, .int .i64 0, .int .i64 0, .int .i64 0] 40)).setRow w2.heap.size #[.int .i64 p, .string tx, .bool ng, .slice va l.length vc, .int .i64 sc, .int .i64 m.k, .int .i64 m.y, .int .i64 m.m, .int .i64 m.d, .int .i64 m.s, .int .i64 m.n, .bool m.hz, .int .i64 m.z, .int .i64 q.o, .int .i64 q.s, .int .i64 q.n] = W5 at *
    have hf := setRow_heap W5 w.heap.size _ #[.int .i64 0, .string ⟨#[]⟩, .bool false, .slice none 0 0, .int .i64 0, .int .i64 0, .int .i64 0, .int .i64 0, .int .i64 0, .int .i64 0, .int .i64 0, .bool false, .int .i64 0, .int .i64 0, .int .i64 0, .int .i64 0] _ _ hS
    have hb : Below w.heap.size w (W5.setRow w.heap.size #[.int .i64 0, .string ⟨#[]⟩, .bool false, .slice none 0 0, .int .i64 0, .int .i64 0, .int .i64 0, .int .i64 0, .int .i64 0, .int .i64 0, .int .i64 0, .bool false, .int .i64 0, .int .i64 0, .int .i64 0, .int .i64 0]) := below_setRow HT.out.2.2.bel (Nat.le_refl _) _
    exact bodyPost_ret (v := .tuple #[vlV 0 ⟨#[]⟩ false (.slice none 0 0) 0 z0 sp0, .int .i64 2]) (by refine (res2 (X := w.heap.size) Tryz.results21 ?_ hf rfl).trans ?_ <;> rfl) rfl ⟨hb, fun q => (by cases q), fun _ => rfl⟩
end Go.Proofs.YtgaegajcejpmdaaGreatDoor
namespace Go.Proofs.YtgaegajcejpmdaaGreatDoor
open Go.RowKit
set_option linter.unusedVariables false
set_option linter.unusedSimpArgs false

theorem alloc_setRow (w : World) (old cs : Array Value) (t : TypeId) : (w.alloc (.cells old t)).setRow w.heap.size cs = w.alloc (.cells cs t) := by
  have h1 := setRow_heap (w.alloc (.cells old t)) w.heap.size old cs t (0, 0) (nw_heap w _)
  unfold World.setRow World.alloc
  congr 1
  apply Array.ext
  · simp
  · intro i h1 h2
    simp at h1 h2 ⊢
    by_cases h : i = w.heap.size
    · subst h; simp [Array.getElem_modify]
    · have : i < w.heap.size := by omega
      simp [Array.getElem_modify, Array.getElem_push, this, h]
      omega
/-- A number's fields. -/
def KN (n : Dc.Nm) (p : Int) (tx : ByteArray) (ng : Bool) (l : List Int) (sc : Int) (m : Dt.Mo) (q : Dt.Sp) : Prop := p = 10 ∧ tx = ⟨#[]⟩ ∧ ng = n.1 ∧ l = n.2.1 ∧ sc = n.2.2 ∧ m = z0 ∧ q = sp0
theorem wh3 {k : Int} (h0 : 3 ≤ k) (h1 : k ≤ 32) : whS k = 3 := by
  unfold whS
  rw [if_pos (isK_iff.2 (by omega)), if_neg (by omega), if_neg (by omega)]
theorem parseN {n : Dc.Nm} (k : Int) (s : ByteArray) (w : World) (hk0 : 10 ≤ k) (hk1 : k ≤ 23) (hs : s.size ≤ 100000) (hs2 : (Ch.spc s 3).size ≤ 100000) (hw : Lw w) (hq : Dc.parS (Dc.bl (Ch.spc s 3)) = .ok n) : Calls Tryz.prog 21 #[.int .i64 k, .string s] w (PsG (KN n) (cntB k (Dc.bl (Ch.spc s 3)) n) w) := by
  refine parse_of k s w (isK_iff.2 (by omega)) hs (fun W hW => ?_)
  rw [wh3 (by omega) (by omega)]
  refine (readN_ok k _ W hk0 hk1 hs2 (hw.below hW) hq).mono ?_
  rintro e w' ⟨hb, h⟩
  rw [hq] at h
  obtain ⟨rv, rfl, hbt⟩ := h
  exact ⟨hb, _, _, _, _, _, _, _, _, rfl, hbt, fun _ => ⟨rfl, rfl, rfl, rfl, rfl, rfl, rfl⟩⟩
theorem parseNe {x : Int} (k : Int) (s : ByteArray) (w : World) (hk0 : 10 ≤ k) (hk1 : k ≤ 23) (hs : s.size ≤ 100000) (hs2 : (Ch.spc s 3).size ≤ 100000) (hq : Dc.parS (Dc.bl (Ch.spc s 3)) = .error x) : Calls Tryz.prog 21 #[.int .i64 k, .string s] w (PsG (fun _ _ _ _ _ _ _ => True) false w) := by
  refine parse_of k s w (isK_iff.2 (by omega)) hs (fun W hW => ?_)
  rw [wh3 (by omega) (by omega)]
  refine (readN_err k _ W hk0 hk1 hs2 hq).mono ?_
  rintro e w' ⟨hb, h⟩
  rw [hq] at h
  obtain ⟨p, t, ng, sl, sc, m, q, rfl, hbt⟩ := h
  exact ⟨hb, p, t, ng, sl, [], sc, m, q, rfl, hbt, fun q => by cases q⟩
theorem spc_size (s : ByteArray) (how : Int) : (Ch.spc s how).size ≤ s.size := by
  have hsb : ∀ l : List Int, (Ch.sb l).size = l.length := fun l => by simp [Ch.sb, ByteArray.size]
  unfold Ch.spc
  split
  · rw [hsb, List.length_map, Ch.bl_len]; exact Nat.le_refl _
  · split
    · rw [hsb]
      have := Ch.col_len (Ch.bl s) [] false
      rw [Ch.bl_len] at this
      simpa using this
    · exact Nat.le_refl _
set_option maxRecDepth 100000 in
set_option maxHeartbeats 1600000 in
/-- Text, of a number. -/
theorem textN {w : World} {v : Value} {n : Dc.Nm} (tx : ByteArray) (m : Dt.Mo) (q : Dt.Sp) (h : Dc.NmR w v n) : Calls Tryz.prog 24 #[vlV 10 tx n.1 v n.2.2 m q] w fun e w' => e = .returned (.string (Dc.sb (Dc.txS n))) ∧ Below w.heap.size w w' := by
  obtain ⟨va, vc, rfl, _⟩ := h.bt.form
  have hbx := BX.new w 40 (vlL 10 tx n.1 (.slice va n.2.1.length vc) n.2.2 m q)
  have ht := fun W (hW : Below w.heap.size w W) => Dc.text_p (h.below hW)
  have HT : Hid _ := And.intro ht hbx.bel
  clear ht h hbx
  go_enter Tryz.func24, Tryz.ntmps24
  go_wp2_with (go_at_call 32; refine Calls.mono (HT.out.1 _ HT.out.2) ?_; rintro e w9 ⟨rfl, hb9⟩)
  go_ret
  exact ⟨rfl, HT.out.2.trans (hb9.mono HT.out.2.size)⟩
end Go.Proofs.YtgaegajcejpmdaaGreatDoor
namespace Go.Proofs.YtgaegajcejpmdaaGreatDoor
open Go.RowKit
set_option linter.unusedVariables false
set_option linter.unusedSimpArgs false

/-- Is a text such a name as its kind asks for? -/
def nmdB (k : Int) (l : List Int) : Bool := if k = 4 then Ch.tokB l else if k = 5 then Ch.nameB l else if k = 6 ∨ k = 7 ∨ k = 8 then Ch.ncB l else true
theorem named_p (k : Int) (s : ByteArray) (w : World) (hs : s.size ≤ maxLen) : Calls Tryz.prog 57 #[.int .i64 k, .string s] w fun e w' => e = .returned (.bool (nmdB k (Ch.bl s))) ∧ Below w.heap.size w w' := by
  rcases (by omega : k = 4 ∨ k = 5 ∨ k = 6 ∨ k = 7 ∨ k = 8 ∨ (k ≠ 4 ∧ k ≠ 5 ∧ k ≠ 6 ∧ k ≠ 7 ∧ k ≠ 8)) with rfl | rfl | rfl | rfl | rfl | ⟨h4, h5, h6, h7, h8⟩
  · go_enter Tryz.func57, Tryz.ntmps57
    go_wp2_with (go_at_call 101; refine (Ch.tok_any _ _ hs).mono ?_; rintro e w9 ⟨rfl, hb9⟩)
    go_ret
    exact ⟨rfl, hb9⟩
  · go_enter Tryz.func57, Tryz.ntmps57
    go_wp2_with (go_at_call 102; refine (Ch.name_any _ _ hs).mono ?_; rintro e w9 ⟨rfl, hb9⟩)
    go_ret
    exact ⟨rfl, hb9⟩
  · go_enter Tryz.func57, Tryz.ntmps57
    go_wp2_with (go_at_call 103; refine (Ch.nc_any _ _ hs).mono ?_; rintro e w9 ⟨rfl, hb9⟩)
    go_ret
    exact ⟨rfl, hb9⟩
  · go_enter Tryz.func57, Tryz.ntmps57
    go_wp2_with (go_at_call 103; refine (Ch.nc_any _ _ hs).mono ?_; rintro e w9 ⟨rfl, hb9⟩)
    go_ret
    exact ⟨rfl, hb9⟩
  · go_enter Tryz.func57, Tryz.ntmps57
    go_wp2_with (go_at_call 103; refine (Ch.nc_any _ _ hs).mono ?_; rintro e w9 ⟨rfl, hb9⟩)
    go_ret
    exact ⟨rfl, hb9⟩
  · have HE : Hid (nmdB k (Ch.bl s) = true) := by show _ = _; unfold nmdB; rw [if_neg h4, if_neg h5, if_neg (by omega)]
    have f4 : (k == 4) = false := by simpa using h4
    have f5 : (k == 5) = false := by simpa using h5
    have f6 : (k == 6) = false := by simpa using h6
    have f7 : (k == 7) = false := by simpa using h7
    have f8 : (k == 8) = false := by simpa using h8
    clear h4 h5 h6 h7 h8
    go_enter Tryz.func57, Tryz.ntmps57
    go_wp2_with fail
    go_ret
    exact ⟨ret_b HE.out.symm, Below.refl _ _⟩
/-- A boolean's one text. -/
def trS (s : ByteArray) : Option ByteArray :=
  if (s.toList == [116, 114, 117, 101]) = true ∨ (s.toList == [49]) = true then some ⟨#[116, 114, 117, 101]⟩ else if (s.toList == [102, 97, 108, 115, 101]) = true ∨ (s.toList == [48]) = true then some ⟨#[102, 97, 108, 115, 101]⟩ else none
theorem truth_p (s : ByteArray) (w : World) : Calls Tryz.prog 58 #[.string s] w fun e w' => e = .returned (.tuple #[.string ((trS s).getD ⟨#[]⟩), .bool (trS s).isSome]) ∧ w' = w := by
  go_enter Tryz.func58, Tryz.ntmps58
  go_wp2_with fail
  all_goals
    go_ret2
    refine ⟨?_, rfl⟩
    unfold trS
    simp_all
/-- A text's fields. -/
def KT (p0 : Int) (t : ByteArray) (p : Int) (tx : ByteArray) (ng : Bool) (l : List Int) (sc : Int) (m : Dt.Mo) (q : Dt.Sp) : Prop := p = p0 ∧ tx = t ∧ ng = false ∧ l = [] ∧ sc = 0 ∧ m = z0 ∧ q = sp0
theorem pr1 {k : Int} (h0 : 1 ≤ k) (h1 : k ≤ 8) : prS k = 1 := by
  obtain ⟨n, rfl⟩ : ∃ n : Nat, k = n := ⟨k.toNat, by omega⟩
  rcases (by omega : n = 1 ∨ n = 2 ∨ n = 3 ∨ n = 4 ∨ n = 5 ∨ n = 6 ∨ n = 7 ∨ n = 8) with rfl | rfl | rfl | rfl | rfl | rfl | rfl | rfl <;> rfl
theorem prim1 (k : Int) (h0 : 1 ≤ k) (h1 : k ≤ 8) (w : World) : Calls Tryz.prog 15 #[.int .i64 k] w fun e w' => e = .returned (.int .i64 1) ∧ w' = w := by
  have := prim_k k w
  rwa [pr1 h0 h1] at this
/-- A time's or a span's fields. -/
def KV (p0 : Int) (m0 : Dt.Mo) (q0 : Dt.Sp) (p : Int) (tx : ByteArray) (ng : Bool) (l : List Int) (sc : Int) (m : Dt.Mo) (q : Dt.Sp) : Prop := p = p0 ∧ tx = ⟨#[]⟩ ∧ ng = false ∧ l = [] ∧ sc = 0 ∧ m = m0 ∧ q = q0
theorem pr24 {k : Int} (h0 : 24 ≤ k) (h1 : k ≤ 31) : prS k = k := by
  obtain ⟨n, rfl⟩ : ∃ n : Nat, k = n := ⟨k.toNat, by omega⟩
  rcases (by omega : n = 24 ∨ n = 25 ∨ n = 26 ∨ n = 27 ∨ n = 28 ∨ n = 29 ∨ n = 30 ∨ n = 31) with rfl | rfl | rfl | rfl | rfl | rfl | rfl | rfl <;> rfl
theorem btr0 {w : World} : Dc.BtR w (.slice none 0 0) [] := btr_nil (Nat.zero_le _)
end Go.Proofs.YtgaegajcejpmdaaGreatDoor
namespace Go.Proofs.YtgaegajcejpmdaaGreatDoor
open Go.RowKit
set_option linter.unusedVariables false
set_option linter.unusedSimpArgs false

set_option maxRecDepth 100000 in
set_option maxHeartbeats 3200000 in
theorem readT (k : Int) (s : ByteArray) (w : World) (hk0 : 1 ≤ k) (hk1 : k ≤ 8) (hs : s.size ≤ 100000) : Calls Tryz.prog 37 #[.int .i64 k, .string s] w (RdG (KT 1 s) (nmdB k (Ch.bl s)) w) := by
  have hbx := BX.new w 40 [.int .i64 1, .string s, .bool false, .slice none 0 0, .int .i64 0, .int .i64 0, .int .i64 0, .int .i64 0, .int .i64 0, .int .i64 0, .int .i64 0, .bool false, .int .i64 0, .int .i64 0, .int .i64 0, .int .i64 0]
  have hpr := fun W => prim1 k hk0 hk1 W
  have hnm := fun W => named_p k s W (by unfold maxLen; omega)
  have HX : Hid _ := hbx
  clear hbx hs hk0 hk1
  generalize nmdB k (Ch.bl s) = cb at *
  go_enter Tryz.func37, Tryz.ntmps37
  go_upto_region 7 with (go_at_call 15; refine (hpr _).mono ?_; rintro e w1 ⟨rfl, hw1⟩; have hw2 := hw1.symm; clear hw1; subst hw2)
  have hblk := HX.out.blk
  generalize w.alloc (.cells #[.int .i64 1, .string s, .bool false, .slice none 0 0, .int .i64 0, .int .i64 0, .int .i64 0, .int .i64 0, .int .i64 0, .int .i64 0, .int .i64 0, .bool false, .int .i64 0, .int .i64 0, .int .i64 0, .int .i64 0] 40) = W3 at *
  refine wp_region_held_drew (S := fun W => W.heap[w.heap.size]? = some (.cells [.int .i64 1, .string s, .bool false, .slice none 0 0, .int .i64 0, .int .i64 0, .int .i64 0, .int .i64 0, .int .i64 0, .int .i64 0, .int .i64 0, .bool false, .int .i64 0, .int .i64 0, .int .i64 0, .int .i64 0].toArray 40 (0, 0))) (by kernel_rfl) hblk (fun hHeld => ?_)
  refine wpAnyH_take (i := 0) (v := .agg #[.int .i64 1, .string s, .bool false, .slice none 0 0, .int .i64 0, .int .i64 0, .int .i64 0, .int .i64 0, .int .i64 0, .int .i64 0, .int .i64 0, .bool false, .int .i64 0, .int .i64 0, .int .i64 0, .int .i64 0]) rfl (by kernel_rfl) (by kernel_rfl) (by kernel_rfl) (fun _ _ _ h => h) (yieldsIf_load_mid (by kernel_rfl) 40 _ rfl w.heap.size 0 rfl [.int .i64 1, .string s, .bool false, .slice none 0 0, .int .i64 0, .int .i64 0, .int .i64 0, .int .i64 0, .int .i64 0, .int .i64 0, .int .i64 0, .bool false, .int .i64 0, .int .i64 0, .int .i64 0, .int .i64 0] _ (fun W hW => rng0 hW) Tryz.underlying40 rfl (by kernel_rfl)) (by assumption) ?_
  try simp only [Act.put, List.getElem_toArray, List.getElem_cons_zero, List.getElem_cons_succ, List.setIfInBounds_toArray, List.set_cons_zero, List.set_cons_succ]
  refine wpAnyH_take (i := 1) (v := (.int .i64 k)) rfl (by kernel_rfl) (by kernel_rfl) (by kernel_rfl) (fun _ _ _ h => h) (Or.inl ⟨by kernel_rfl, fun w' hSw => (by (try dsimp only at hSw); go_simp)⟩) (by assumption) ?_
  try simp only [Act.put, List.getElem_toArray, List.getElem_cons_zero, List.getElem_cons_succ, List.setIfInBounds_toArray, List.set_cons_zero, List.set_cons_succ]
  refine wpAnyH_take (i := 2) (v := (.string s)) rfl (by kernel_rfl) (by kernel_rfl) (by kernel_rfl) (fun _ _ _ h => h) (Or.inl ⟨by kernel_rfl, fun w' hSw => (by (try dsimp only at hSw); go_simp)⟩) (by assumption) ?_
  try simp only [Act.put, List.getElem_toArray, List.getElem_cons_zero, List.getElem_cons_succ, List.setIfInBounds_toArray, List.set_cons_zero, List.set_cons_succ]
  refine wpAnyH_ready (rs := [3]) (by kernel_rfl) (by simp) ?_
  refine AllReadyH.cons rfl (fun K hK => ?_) AllReadyH.nil
  go_simp
  refine Calls.mono (hnm _) ?_
  rintro e w9 ⟨rfl, hb9⟩
  have hbb : Below W3.heap.size W3 w9 := (Dc.Below.drewN' 1).trans hb9
  have hblk9 := (hbb.block _ (Dc.lt_of hblk)).trans hblk
  have HB9 : Hid _ := hbb
  clear hbb hb9 hHeld
  go_wp2_with fail
  refine hK.out _ _ hblk9 (fun hHeld => ?_)
  clear hK K
  try simp only [Act.put, List.getElem_toArray, List.getElem_cons_zero, List.getElem_cons_succ, List.setIfInBounds_toArray, List.set_cons_zero, List.set_cons_succ]
  refine wpAnyH_ready (rs := [4]) (by kernel_rfl) (by simp) ?_
  refine AllReadyH.cons rfl (fun K hK => ?_) AllReadyH.nil
  rw [if_pos (by kernel_rfl)]
  refine wp_store_row 40 _ _ rfl w.heap.size _ rfl rfl 40 _ hHeld (by kernel_rfl) rfl (by simp [Value.oneCell']) ?_
  rw [setRow_self _ _ _ _ _ hHeld]
  refine hK.out _ _ hHeld (fun hHeld => ?_)
  clear hK K
  try simp only [Act.put, List.getElem_toArray, List.getElem_cons_zero, List.getElem_cons_succ, List.setIfInBounds_toArray, List.set_cons_zero, List.set_cons_succ]
  refine wpAnyH_take (i := 5) (v := (.bool cb)) rfl (by kernel_rfl) (by kernel_rfl) (by kernel_rfl) (fun _ _ _ h => h) (Or.inl ⟨by kernel_rfl, fun w' hSw => (by (try dsimp only at hSw); go_simp)⟩) (by assumption) ?_
  try simp only [Act.put, List.getElem_toArray, List.getElem_cons_zero, List.getElem_cons_succ, List.setIfInBounds_toArray, List.set_cons_zero, List.set_cons_succ]
  refine wpAnyH_done (by kernel_rfl) ?_ _
  have HY : Hid _ := HX.out.bel.trans (HB9.out.mono HX.out.lsz)
  have HHe : Hid _ := hHeld
  clear hHeld hblk9 hblk
  go_wp2_with fail
  exact bodyPost_ret (v := .tuple #[vlV 1 s false (.slice none 0 0) 0 z0 sp0, .bool cb]) (by refine (res2 (X := w.heap.size) Tryz.results37 ?_ HHe.out rfl).trans ?_ <;> rfl) rfl ⟨HY.out, _, _, _, _, [], _, _, _, rfl, btr0, fun _ => ⟨rfl, rfl, rfl, rfl, rfl, rfl, rfl⟩⟩
end Go.Proofs.YtgaegajcejpmdaaGreatDoor
namespace Go.Proofs.YtgaegajcejpmdaaGreatDoor
open Go.RowKit
set_option linter.unusedVariables false
set_option linter.unusedSimpArgs false

theorem prim9 (w : World) : Calls Tryz.prog 15 #[.int .i64 9] w fun e w' => e = .returned (.int .i64 9) ∧ w' = w := prim_k 9 w
set_option maxRecDepth 100000 in
set_option maxHeartbeats 3200000 in
theorem readB (s : ByteArray) (w : World) : Calls Tryz.prog 37 #[.int .i64 9, .string s] w (RdG (KT 9 ((trS s).getD ⟨#[]⟩)) (trS s).isSome w) := by
  have htr := fun W => truth_p s W
  generalize (trS s).getD ⟨#[]⟩ = tb at *
  generalize (trS s).isSome = cb at *
  have hbx := BX.new w 40 [.int .i64 9, .string tb, .bool false, .slice none 0 0, .int .i64 0, .int .i64 0, .int .i64 0, .int .i64 0, .int .i64 0, .int .i64 0, .int .i64 0, .bool false, .int .i64 0, .int .i64 0, .int .i64 0, .int .i64 0]
  have hA := nw_heap w (.cells #[.int .i64 9, .string tb, .bool false, .slice none 0 0, .int .i64 0, .int .i64 0, .int .i64 0, .int .i64 0, .int .i64 0, .int .i64 0, .int .i64 0, .bool false, .int .i64 0, .int .i64 0, .int .i64 0, .int .i64 0] 40)
  have HX : Hid _ := hbx
  clear hbx
  go_enter Tryz.func37, Tryz.ntmps37
  go_wp2_with (first | (go_at_call 15; refine (prim9 _).mono ?_; rintro e w1 ⟨rfl, hw1⟩; have hw2 := hw1.symm; clear hw1; subst hw2) | (go_at_call 58; refine (htr _).mono ?_; rintro e w1 ⟨rfl, hw1⟩; have hw2 := hw1.symm; clear hw1; subst hw2) | (refine wpList_load_row rfl 40 _ rfl w.heap.size rfl 40 _ (0, 0) _ hA Tryz.underlying40 rfl (by kernel_rfl) ?_) | (refine wpList_store_row rfl 40 _ _ rfl w.heap.size _ rfl rfl 40 _ hA (by kernel_rfl) rfl (by simp [Value.oneCell']) ?_; rw [alloc_setRow]))
  exact bodyPost_ret (v := .tuple #[vlV 9 tb false (.slice none 0 0) 0 z0 sp0, .bool cb]) (by refine (res2 (X := w.heap.size) Tryz.results37 ?_ HX.out.blk rfl).trans ?_ <;> rfl) rfl ⟨HX.out.bel, _, _, _, _, [], _, _, _, rfl, btr0, fun _ => ⟨rfl, rfl, rfl, rfl, rfl, rfl, rfl⟩⟩
end Go.Proofs.YtgaegajcejpmdaaGreatDoor
namespace Go.Proofs.YtgaegajcejpmdaaGreatDoor.Dt
set_option linter.unusedVariables false

theorem tmod_neg {a b : Int} (hb : 0 < b) (h : a.tmod b < 0) : a.tmod b + b = a % b := by
  rw [Int.tmod_eq_emod] at h ⊢
  have := Int.emod_nonneg a (show b ≠ 0 by omega)
  split at h <;> rename_i c
  · omega
  · rw [if_neg c]; omega
theorem tmod_pos {a b : Int} (hb : 0 < b) (h : ¬ a.tmod b < 0) : a.tmod b = a % b := by
  rw [Int.tmod_eq_emod] at h ⊢
  have := Int.emod_lt_of_pos a hb
  split at h <;> rename_i c
  · rw [if_pos c]; omega
  · omega
theorem tdiv_fix {a b : Int} (hb : 0 < b) : (a - a % b).tdiv b = a / b := by
  have : a - a % b = b * (a / b) := by have := Int.emod_add_mul_ediv a b; omega
  rw [this, Int.mul_tdiv_cancel_left _ (by omega)]
theorem emod_in (a : Int) {b : Int} (hb : 0 < b) : 0 ≤ a % b ∧ a % b < b := ⟨Int.emod_nonneg _ (by omega), Int.emod_lt_of_pos _ hb⟩
end Go.Proofs.YtgaegajcejpmdaaGreatDoor.Dt
namespace Go.Proofs.YtgaegajcejpmdaaGreatDoor.Dt
open Go.RowKit
set_option linter.unusedVariables false

theorem nw_heap (w : World) (o : Obj) : (w.alloc o).heap[w.heap.size]? = some o := (Go.MapKept.heap_alloc w o).1
theorem bset {w : World} {X i : Nat} {t : TypeId} {cs : Array Value} (h : w.heap[X]? = some (.cells cs t (0, 0))) (u : Value) : (w.setCell ⟨X, i, none⟩ u).heap[X]? = some (.cells (cs.setIfInBounds i u) t (0, 0)) := by
  simp only [World.setCell, Array.getElem?_modify]
  rw [if_pos trivial, h]
  simp
theorem sza (w : World) (o : Obj) : (w.alloc o).heap.size = w.heap.size + 1 := by simp
theorem lt_of {w : World} {X : Nat} {o : Obj} (h : w.heap[X]? = some o) : X < w.heap.size := (Array.getElem?_eq_some_iff.1 h).1
theorem below_drewN {w : World} (k : Nat) : Below w.heap.size w (w.drewN k) := ⟨rfl, rfl, rfl, Nat.le_refl _, fun _ _ => rfl⟩
theorem bdrewN {N : Nat} {a w : World} (h : Below N a w) (q : Nat) : Below N a (w.drewN q) := ⟨h.os, h.tape, h.output, h.size, h.block⟩
theorem bcell {W w1 : World} (hb : Below W.heap.size W w1) : (∀ b o, b < W.heap.size → w1.cell? ⟨b, o, none⟩ = W.cell? ⟨b, o, none⟩) ∧ (∀ b o, b < W.heap.size → w1.frozen? ⟨b, o, none⟩ = W.frozen? ⟨b, o, none⟩) :=
  ⟨fun b o h => hb.cell (p := ⟨b, o, none⟩) h, fun b o h => hb.frozen (p := ⟨b, o, none⟩) h⟩
theorem ret_int {k : IntKind} {a b : Int} (h : a = b) : Ending.returned (.int k a) = .returned (.int k b) := by rw [h]
theorem ret_bool {a b : Bool} (h : a = b) : Ending.returned (.bool a) = .returned (.bool b) := by rw [h]
/-- What changes lies in blocks of its own. -/
structure Fro (O : Nat → Prop) (w w' : World) : Prop where
  os : w'.os = w.os
  tape : w'.tape = w.tape
  output : w'.output = w.output
  size : w.heap.size ≤ w'.heap.size
  block : ∀ k, k < w.heap.size → ¬ O k → w'.heap[k]? = w.heap[k]?
theorem Fro.refl (O : Nat → Prop) (w : World) : Fro O w w := ⟨rfl, rfl, rfl, Nat.le_refl _, fun _ _ _ => rfl⟩
theorem Fro.trans {O : Nat → Prop} {a b c : World} (h : Fro O a b) (k : Fro O b c) : Fro O a c :=
  ⟨k.os.trans h.os, k.tape.trans h.tape, k.output.trans h.output, Nat.le_trans h.size k.size, fun i hi hn => (k.block i (Nat.lt_of_lt_of_le hi h.size) hn).trans (h.block i hi hn)⟩
/-- What is new since may change too. -/
theorem Fro.trans' {O O' : Nat → Prop} {a b c : World} (h : Fro O a b) (k : Fro O' b c) (ho : ∀ i, i < a.heap.size → O' i → O i) : Fro O a c :=
  ⟨k.os.trans h.os, k.tape.trans h.tape, k.output.trans h.output, Nat.le_trans h.size k.size, fun i hi hn => (k.block i (Nat.lt_of_lt_of_le hi h.size) (fun q => hn (ho i hi q))).trans (h.block i hi hn)⟩
theorem Fro.mono {O O' : Nat → Prop} {a b : World} (h : Fro O a b) (ho : ∀ i, i < a.heap.size → O i → O' i) : Fro O' a b :=
  ⟨h.os, h.tape, h.output, h.size, fun i hi hn => h.block i hi (fun q => hn (ho i hi q))⟩
theorem Fro.below {O : Nat → Prop} {a b : World} (h : Below a.heap.size a b) : Fro O a b := ⟨h.os, h.tape, h.output, h.size, fun i hi _ => h.block i hi⟩
theorem Fro.toBelow {O : Nat → Prop} {a b : World} {N : Nat} (h : Fro O a b) (hN : N ≤ a.heap.size) (ho : ∀ i, i < N → ¬ O i) : Below N a b := ⟨h.os, h.tape, h.output, h.size, fun i hi => h.block i (Nat.lt_of_lt_of_le hi hN) (ho i hi)⟩
theorem Fro.drewN {O : Nat → Prop} {a b : World} (h : Fro O a b) (q : Nat) : Fro O a (b.drewN q) := ⟨h.os, h.tape, h.output, h.size, h.block⟩
theorem Fro.alloc {O : Nat → Prop} {a b : World} (h : Fro O a b) (o : Obj) : Fro O a (b.alloc o) := h.trans' (Fro.below (O := fun _ => False) ((Below.refl _ _).alloc (Nat.le_refl _) o)) (fun _ _ q => q.elim)
theorem Fro.set {O : Nat → Prop} {a b : World} (h : Fro O a b) {X i : Nat} (hX : O X ∨ a.heap.size ≤ X) (u : Value) : Fro O a (b.setCell ⟨X, i, none⟩ u) :=
  h.trans' (O' := fun k => k = X) ⟨rfl, rfl, rfl, by simp [World.setCell], fun k _ hk => Below.heap_setCell _ _ _ _ hk⟩ (fun k hk e => by
    rcases hX with q | q
    · rw [e]; exact q
    · omega)
theorem Fro.at {O : Nat → Prop} {a b : World} (h : Fro O a b) {X : Nat} {o : Obj} (hX : a.heap[X]? = some o) (hO : ¬ O X) : b.heap[X]? = some o := (h.block X (lt_of hX) hO).trans hX
end Go.Proofs.YtgaegajcejpmdaaGreatDoor.Dt
