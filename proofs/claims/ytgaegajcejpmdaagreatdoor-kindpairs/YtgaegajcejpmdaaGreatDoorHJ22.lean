/- Joined: HChRep, HK11. -/
import Derived.Test.YtgaegajcejpmdaaGreatDoorHJ21
import Derived.Test.YtgaegajcejpmdaaGreatDoorHJ17
import Derived.Laws.CopyOwn
namespace Go.Proofs.YtgaegajcejpmdaaGreatDoor.Ch
open Go.RowKit
set_option linter.unusedVariables false

def rp (c : Int) : Int := if isWhite c = true then 32 else c
theorem rp_bd (c : Int) (h : 0 ≤ c ∧ c < 256) : 0 ≤ rp c ∧ rp c < 256 := by unfold rp; split <;> omega
theorem rp_getD (l : List Int) (j : Nat) (h : j < l.length) : (l.map rp).getD j 0 = rp (l.getD j 0) := by
  simp [List.getD_eq_getElem?_getD, h]
theorem conv_free (s : ByteArray) (w : World) (hs : s.size ≤ maxLen) : ∃ cap w1, s.size ≤ cap ∧ cap ≤ maxLen ∧
    (convert 9 32 (.string s)).run Tryz.prog w = .ok (.slice (some ⟨w.heap.size, 0, none⟩) s.size cap) w1 ∧ Below w.heap.size w w1 ∧
    (∀ j, j < s.size → w1.cell? ⟨w.heap.size, j, none⟩ = some (.int .u8 ((bl s).getD j 0))) ∧ ∀ j, j < s.size → w1.frozen? ⟨w.heap.size, j, none⟩ = false := by
  refine ⟨grownCap w s.size 0 5, _, grownCap_ge _ _ _ _, grownCap_le_maxLen _ _ _ _ hs, run_bytes_of_string w 9 32 5 s Tryz.underlying9 Tryz.underlying32 Tryz.underlying5, ?_, ?_, ?_⟩
  · exact (Below.refl _ _).drew.alloc (Nat.le_refl _) _
  · intro i hi
    have h := World.cell?_alloc_mark w.drew (bytesRow s (grownCap w s.size 0 5)) 5 ((bytesRow s (grownCap w s.size 0 5)).size, (bytesRow s (grownCap w s.size 0 5)).size + 1) i
    refine h.trans ?_
    rw [bytesRow_at s _ i hi]
    simp [bl, List.getD_eq_getElem?_getD, hi]
  · intro i hi
    have hge := grownCap_ge w s.size 0 5
    have hsz : (bytesRow s (grownCap w s.size 0 5)).size = grownCap w s.size 0 5 := by
      unfold bytesRow
      rw [Array.size_append, Array.size_map, Array.size_replicate]
      have : s.data.size = s.size := rfl
      omega
    unfold World.frozen?
    have hh : (w.drew.alloc (.cells (bytesRow s (grownCap w s.size 0 5)) 5 ((bytesRow s (grownCap w s.size 0 5)).size, (bytesRow s (grownCap w s.size 0 5)).size + 1))).heap[w.heap.size]? = some (.cells (bytesRow s (grownCap w s.size 0 5)) 5 ((bytesRow s (grownCap w s.size 0 5)).size, (bytesRow s (grownCap w s.size 0 5)).size + 1)) := by
      show (w.heap.push _)[w.heap.size]? = _
      simp
    rw [hh]
    simp
    omega

def RepRel (w : World) (n : Nat) (l : List Int) (i : Value) (wr : World) : Prop :=
  ∃ k : Nat, k ≤ n ∧ i = .int .i64 k ∧ Below w.heap.size w wr ∧ (∀ j, j < n → wr.frozen? ⟨w.heap.size, j, none⟩ = false) ∧
    ∀ j, j < n → wr.cell? ⟨w.heap.size, j, none⟩ = some (.int .u8 (if j < k then rp (l.getD j 0) else l.getD j 0))

set_option maxHeartbeats 400000 in
theorem replace_any (s : ByteArray) (w : World) (hs : s.size ≤ 100000) :
    Calls Tryz.prog 63 #[.string s] w fun e w' => e = .returned (.string (sb ((bl s).map rp))) ∧ Below w.heap.size w w' := by
  obtain ⟨cap, w1, hc, hcm, hrun, hbel, hcell, hfr⟩ := conv_free s w (by unfold maxLen; omega)
  have hstart : RepRel w s.size (bl s) (.int .i64 0) w1 := ⟨0, Nat.zero_le _, rfl, hbel, hfr, fun j hj => by rw [hcell j hj]; simp⟩
  have HS : Hid _ := hstart
  have HBd : Hid _ := bl_bd s
  have HL : Hid _ := bl_len s
  clear hstart hbel hcell hfr hc hcm
  generalize bl s = l at *
  go_enter Tryz.func63, Tryz.ntmps63
  go_wp2
  go_loopw [10] (fun i wr => RepRel w s.size l i wr) (fun i _ => s.size - (intOf i).toNat)
  case atStart => exact HS.out
  case round =>
    obtain ⟨k, hk, rfl, hbel, hfr, hcell⟩ := hrel
    have HB : Hid _ := hbel
    have HF : Hid _ := hfr
    have HC : Hid _ := hcell
    clear hbel HS hrun
    by_cases hlt : k < s.size
    · have hfk := hfr k hlt
      have hck := hcell k hlt
      rw [if_neg (Nat.lt_irrefl k)] at hck
      have hb1 := (HBd.out k).1
      have hb2 := (HBd.out k).2
      clear hfr hcell
      by_cases hw : isWhite (l.getD k 0) = true
      · have hr : Hid (rp (l.getD k 0) = 32) := by show _ = _; unfold rp; rw [if_pos hw]
        generalize hx : l.getD k 0 = c at *
        have HX : Hid _ := hx
        clear hx
        go_wp2_with (go_at_call 116; refine (white_any _ _).mono ?_; rintro e w' ⟨rfl, rfl⟩)
        go_roundw
        case rel =>
          refine ⟨k + 1, by omega, by go_num, HB.out.setCell (Nat.le_refl _) _, fun j hj => by simpa using HF.out j hj, fun j hj => ?_⟩
          by_cases e : j = k
          · subst e
            rw [World.cell?_setCell_same' _ _ _ (by rw [hck]; rfl), if_pos (by omega), HX.out, hr.out]
          · rw [World.cell?_setCell_other _ _ _ _ (addr_ne _ (fun h => e h.symm)), HC.out j hj]
            by_cases g : j < k
            · rw [if_pos g, if_pos (by omega)]
            · rw [if_neg g, if_neg (by omega)]
        case measure => simp [intOf]; omega
      · have hw' : isWhite (l.getD k 0) = false := by simpa using hw
        have hr : Hid (rp (l.getD k 0) = l.getD k 0) := by show _ = _; unfold rp; rw [if_neg hw]
        clear hw
        generalize hx : l.getD k 0 = c at *
        have HX : Hid _ := hx
        clear hx
        go_wp2_with (go_at_call 116; refine (white_any _ _).mono ?_; rintro e w' ⟨rfl, rfl⟩)
        go_roundw
        case rel =>
          refine ⟨k + 1, by omega, by go_num, HB.out, HF.out, fun j hj => ?_⟩
          rw [HC.out j hj]
          by_cases g : j < k
          · rw [if_pos g, if_pos (by omega)]
          · rw [if_neg g]
            by_cases e : j = k
            · subst e; rw [if_pos (by omega), HX.out, hr.out]
            · rw [if_neg (by omega)]
        case measure => simp [intOf]; omega
    · have hcv := conv_string w.heap.size 0 cap (l.map rp) wr (fun j hj => by
        rw [List.length_map] at hj
        rw [Nat.zero_add, HC.out j (by rw [← HL.out]; exact hj), if_pos (by rw [HL.out] at hj; omega), rp_getD l j hj])
      rw [List.length_map, HL.out] at hcv
      clear hfr hcell
      go_wp2
      go_ret
      exact ⟨rfl, HB.out⟩

def spc (s : ByteArray) (how : Int) : ByteArray := if how = 2 then sb ((bl s).map rp) else if how = 3 then sb (col (bl s) [] false) else s
set_option maxHeartbeats 400000 in
theorem space_any (s : ByteArray) (how : Int) (w : World) (hs : s.size ≤ 100000) :
    Calls Tryz.prog 38 #[.string s, .int .i64 how] w fun e w' => e = .returned (.string (spc s how)) ∧ Below w.heap.size w w' := by
  by_cases h2 : how = 2
  · subst h2
    go_enter Tryz.func38, Tryz.ntmps38
    go_wp2_with (go_at_call 63; refine (replace_any _ _ hs).mono ?_; rintro e w' ⟨rfl, hb⟩)
    go_ret
    exact ⟨rfl, ‹_›⟩
  · by_cases h3 : how = 3
    · subst h3
      exact space_col s w hs
    · have e2 : (how == 2) = false := beq_eq_false_iff_ne.2 h2
      have e3 : (how == 3) = false := beq_eq_false_iff_ne.2 h3
      have hq : Hid (spc s how = s) := by show _ = _; unfold spc; rw [if_neg h2, if_neg h3]
      clear h2 h3
      go_enter Tryz.func38, Tryz.ntmps38
      go_wp2
      go_ret
      refine ⟨?_, Below.refl _ _⟩
      rw [hq.out]; rfl

end Go.Proofs.YtgaegajcejpmdaaGreatDoor.Ch
namespace Go.Proofs.YtgaegajcejpmdaaGreatDoor
open Go.RowKit
set_option linter.unusedVariables false
set_option linter.unusedSimpArgs false

/-- What read leaves: a value with a row of digits; where it is right, KK tells of it. -/
def RdG (KK : Int → ByteArray → Bool → List Int → Int → Dt.Mo → Dt.Sp → Prop) (ok : Bool) (w : World) (e : Ending) (w' : World) : Prop :=
  Below w.heap.size w w' ∧ ∃ p tx ng sl l sc m q, e = .returned (.tuple #[vlV p tx ng sl sc m q, .bool ok]) ∧ Dc.BtR w' sl l ∧ (ok = true → KK p tx ng l sc m q)
/-- What Parse leaves. -/
def PsG (KK : Int → ByteArray → Bool → List Int → Int → Dt.Mo → Dt.Sp → Prop) (ok : Bool) (w : World) (e : Ending) (w' : World) : Prop :=
  Below w.heap.size w w' ∧ (ok = true → ∃ p tx ng sl l sc m q, e = .returned (.tuple #[vlV p tx ng sl sc m q, .int .i64 0]) ∧ Dc.BtR w' sl l ∧ KK p tx ng l sc m q) ∧ (ok = false → e = .returned (.tuple #[vlV 0 ⟨#[]⟩ false (.slice none 0 0) 0 z0 sp0, .int .i64 2]))
theorem no_u8 {p sc : Int} {tx : ByteArray} {ng : Bool} {a : Option Addr} {x y : Nat} {m : Dt.Mo} {q : Dt.Sp} : ∀ u ∈ vlL p tx ng (.slice a x y) sc m q, ∀ d, u ≠ .int .u8 d := by
  intro u hu d e
  subst e
  simp at hu
set_option maxRecDepth 100000 in
set_option maxHeartbeats 6400000 in
theorem parse_of {KK : Int → ByteArray → Bool → List Int → Int → Dt.Mo → Dt.Sp → Prop} {ok : Bool} (k : Int) (s : ByteArray) (w : World) (hk : isK k = true) (hs : s.size ≤ 100000)
    (hrd : ∀ W, Below w.heap.size w W → Calls Tryz.prog 37 #[.int .i64 k, .string (Ch.spc s (whS k))] W (RdG KK ok W)) : Calls Tryz.prog 21 #[.int .i64 k, .string s] w (PsG KK ok w) := by
  have hbx := BX.new w 40 (vlL 0 ⟨#[]⟩ false (.slice none 0 0) 0 z0 sp0)
  have HX : Hid _ := hbx
  have HR : Hid _ := hrd
  have hsp := fun W => Ch.space_any s (whS k) W hs
  clear hbx hrd hs
  generalize Ch.spc s (whS k) = t at *
  have hwk := fun W => white_k k W
  generalize whS k = wk at *
  go_enter Tryz.func21, Tryz.ntmps21
  go_wp2_with (first | (go_at_call 33; refine (known_k _ _).mono ?_; rintro e w' ⟨rfl, hw1⟩; have hw2 := hw1.symm; clear hw1; subst hw2) | (go_at_call 17; refine (hwk _).mono ?_; rintro e w' ⟨rfl, hw1⟩; have hw2 := hw1.symm; clear hw1; subst hw2) | (go_at_call 38; refine (hsp _).mono ?_; rintro e w1 ⟨rfl, hb1⟩; have hx1 := HX.out.below hb1; have HX1 : Hid _ := hx1; clear hb1 hx1))
  refine Calls.mono (HR.out _ HX1.out.bel) ?_
  rintro e w2 ⟨hb2, p, tx, ng, sl, l, sc, m, q, rfl, hbt, hkk⟩
  have hx2 := HX1.out.below hb2
  obtain ⟨va, vc, rfl, _⟩ := hbt.form
  have hlt2 : w.heap.size < w2.heap.size := Dc.lt_of hx2.blk
  have hA := nw_heap w2 (.cells #[.int .i64 0, .string ⟨#[]⟩, .bool false, .slice none 0 0, .int .i64 0, .int .i64 0, .int .i64 0, .int .i64 0, .int .i64 0, .int .i64 0, .int .i64 0, .bool false, .int .i64 0, .int .i64 0, .int .i64 0, .int .i64 0] 40)
  have hL : ((w2.alloc (.cells #[.int .i64 0, .string ⟨#[]⟩, .bool false, .slice none 0 0, .int .i64 0, .int .i64 0, .int .i64 0, .int .i64 0, .int .i64 0, .int .i64 0, .int .i64 0, .bool false, .int .i64 0, .int .i64 0, .int .i64 0, .int .i64 0] 40)).setRow w2.heap.size #[.int .i64 p, .string tx, .bool ng, .slice va l.length vc, .int .i64 sc, .int .i64 m.k, .int .i64 m.y, .int .i64 m.m, .int .i64 m.d, .int .i64 m.s, .int .i64 m.n, .bool m.hz, .int .i64 m.z, .int .i64 q.o, .int .i64 q.s, .int .i64 q.n]).heap[w2.heap.size]? = some (.cells #[.int .i64 p, .string tx, .bool ng, .slice va l.length vc, .int .i64 sc, .int .i64 m.k, .int .i64 m.y, .int .i64 m.m, .int .i64 m.d, .int .i64 m.s, .int .i64 m.n, .bool m.hz, .int .i64 m.z, .int .i64 q.o, .int .i64 q.s, .int .i64 q.n] 40 (0, 0)) := setRow_heap _ _ _ _ _ _ hA
  have hB5 : Below w2.heap.size w2 ((w2.alloc (.cells #[.int .i64 0, .string ⟨#[]⟩, .bool false, .slice none 0 0, .int .i64 0, .int .i64 0, .int .i64 0, .int .i64 0, .int .i64 0, .int .i64 0, .int .i64 0, .bool false, .int .i64 0, .int .i64 0, .int .i64 0, .int .i64 0] 40)).setRow w2.heap.size #[.int .i64 p, .string tx, .bool ng, .slice va l.length vc, .int .i64 sc, .int .i64 m.k, .int .i64 m.y, .int .i64 m.m, .int .i64 m.d, .int .i64 m.s, .int .i64 m.n, .bool m.hz, .int .i64 m.z, .int .i64 q.o, .int .i64 q.s, .int .i64 q.n]) := below_setRow ((Below.refl _ _).alloc (Nat.le_refl _) _) (Nat.le_refl _) _
  have hx5 := hx2.below hB5
  have hS : ((w2.alloc (.cells #[.int .i64 0, .string ⟨#[]⟩, .bool false, .slice none 0 0, .int .i64 0, .int .i64 0, .int .i64 0, .int .i64 0, .int .i64 0, .int .i64 0, .int .i64 0, .bool false, .int .i64 0, .int .i64 0, .int .i64 0, .int .i64 0] 40)).setRow w2.heap.size #[.int .i64 p, .string tx, .bool ng, .slice va l.length vc, .int .i64 sc, .int .i64 m.k, .int .i64 m.y, .int .i64 m.m, .int .i64 m.d, .int .i64 m.s, .int .i64 m.n, .bool m.hz, .int .i64 m.z, .int .i64 q.o, .int .i64 q.s, .int .i64 q.n]).heap[w.heap.size]? = some (.cells #[.int .i64 0, .string ⟨#[]⟩, .bool false, .slice none 0 0, .int .i64 0, .int .i64 0, .int .i64 0, .int .i64 0, .int .i64 0, .int .i64 0, .int .i64 0, .bool false, .int .i64 0, .int .i64 0, .int .i64 0, .int .i64 0] 40 (0, 0)) := hx5.blk
  have HT : Hid _ := And.intro (Dc.BtR.below hbt hB5) (And.intro hkk hx5)
  clear hx2 hbt hkk hb2 HX HX1 HR hsp hwk hx5 hB5
  cases ok with
  | true =>
    go_wp2_with (first | (refine wpList_store_row rfl 40 _ _ rfl w2.heap.size _ rfl rfl 40 _ hA (by kernel_rfl) rfl (by simp [Value.oneCell']) ?_) | (refine wpList_load_row rfl 40 _ rfl w2.heap.size rfl 40 _ (0, 0) _ hL Tryz.underlying40 rfl (by kernel_rfl) ?_) | (refine wpList_store_row rfl 40 _ _ rfl w.heap.size _ rfl rfl 40 _ hS (by kernel_rfl) rfl (by simp [Value.oneCell']) ?_))
    generalize (w2.alloc (.cells #[.int .i64 0, .string ⟨#[]⟩, .bool false, .slice none 0 0, .int .i64 0, .int .i64 0, .int .i64 0, .int .i64 0, .int .i64 0, .int .i64 0, .int .i64 0, .bool false, .int .i64 0, .int .i64 0, .int .i64 0, .int .i64 0] 40)).setRow w2.heap.size #[.int .i64 p, .string tx, .bool ng, .slice va l.length vc, .int .i64 sc, .int .i64 m.k, .int .i64 m.y, .int .i64 m.m, .int .i64 m.d, .int .i64 m.s, .int .i64 m.n, .bool m.hz, .int .i64 m.z, .int .i64 q.o, .int .i64 q.s, .int .i64 q.n] = W5 at *
    have hf := setRow_heap W5 w.heap.size _ #[.int .i64 p, .string tx, .bool ng, .slice va l.length vc, .int .i64 sc, .int .i64 m.k, .int .i64 m.y, .int .i64 m.m, .int .i64 m.d, .int .i64 m.s, .int .i64 m.n, .bool m.hz, .int .i64 m.z, .int .i64 q.o, .int .i64 q.s, .int .i64 q.n] _ _ hS
    have hb : Below w.heap.size w (W5.setRow w.heap.size #[.int .i64 p, .string tx, .bool ng, .slice va l.length vc, .int .i64 sc, .int .i64 m.k, .int .i64 m.y, .int .i64 m.m, .int .i64 m.d, .int .i64 m.s, .int .i64 m.n, .bool m.hz, .int .i64 m.z, .int .i64 q.o, .int .i64 q.s, .int .i64 q.n]) := below_setRow HT.out.2.2.bel (Nat.le_refl _) _
    have hbt : Dc.BtR (W5.setRow w.heap.size #[.int .i64 p, .string tx, .bool ng, .slice va l.length vc, .int .i64 sc, .int .i64 m.k, .int .i64 m.y, .int .i64 m.m, .int .i64 m.d, .int .i64 m.s, .int .i64 m.n, .bool m.hz, .int .i64 m.z, .int .i64 q.o, .int .i64 q.s, .int .i64 q.n]) (.slice va l.length vc) l := Dc.BtR.kept HT.out.1 (Nat.le_of_eq (setRow_size _ _ _).symm) (fun k hk => setRow_other _ _ _ _ hk) (btr_apart HT.out.1 HT.out.2.2.blk no_u8)
    exact bodyPost_ret (v := .tuple #[vlV p tx ng (.slice va l.length vc) sc m q, .int .i64 0]) (by refine (res2 (X := w.heap.size) Tryz.results21 ?_ hf rfl).trans ?_ <;> rfl) rfl ⟨hb, fun _ => ⟨p, tx, ng, _, l, sc, m, q, rfl, hbt, HT.out.2.1 trivial⟩, fun q => by cases q⟩
  | false =>
    go_wp2_with (first | (refine wpList_store_row rfl 40 _ _ rfl w2.heap.size _ rfl rfl 40 _ hA (by kernel_rfl) rfl (by simp [Value.oneCell']) ?_) | (refine wpList_store_row rfl 40 _ _ rfl w.heap.size _ rfl rfl 40 _ hS (by kernel_rfl) rfl (by simp [Value.oneCell']) ?_))
    generalize (w2.alloc (.cells #[.int .i64 0, .string ⟨#[]⟩, .bool false, .slice none 0 0, .int .i64 0, .int .i64 0, .int .i64 0, .int .i64 0, .int .i64 0, .int .i64 0, .int .i64 0, .bool false, .int .i64 0, .int .i64 0, .int .i64 0, .int .i64 0] 40)).setRow w2.heap.size #[.int .i64 p, .string tx, .bool ng, .slice va l.length vc, .int .i64 sc, .int .i64 m.k, .int .i64 m.y, .int .i64 m.m, .int .i64 m.d, .int .i64 m.s, .int .i64 m.n, .bool m.hz, .int .i64 m.z, .int .i64 q.o, .int .i64 q.s, .int .i64 q.n] = W5 at *
    have hf := setRow_heap W5 w.heap.size _ #[.int .i64 0, .string ⟨#[]⟩, .bool false, .slice none 0 0, .int .i64 0, .int .i64 0, .int .i64 0, .int .i64 0, .int .i64 0, .int .i64 0, .int .i64 0, .bool false, .int .i64 0, .int .i64 0, .int .i64 0, .int .i64 0] _ _ hS
    have hb : Below w.heap.size w (W5.setRow w.heap.size #[.int .i64 0, .string ⟨#[]⟩, .bool false, .slice none 0 0, .int .i64 0, .int .i64 0, .int .i64 0, .int .i64 0, .int .i64 0, .int .i64 0, .int .i64 0, .bool false, .int .i64 0, .int .i64 0, .int .i64 0, .int .i64 0]) := below_setRow HT.out.2.2.bel (Nat.le_refl _) _
    exact bodyPost_ret (v := .tuple #[vlV 0 ⟨#[]⟩ false (.slice none 0 0) 0 z0 sp0, .int .i64 2]) (by refine (res2 (X := w.heap.size) Tryz.results21 ?_ hf rfl).trans ?_ <;> rfl) rfl ⟨hb, fun q => (by cases q), fun _ => rfl⟩
end Go.Proofs.YtgaegajcejpmdaaGreatDoor
