/- Joined: HK13, HK14. -/
import Derived.Test.YtgaegajcejpmdaaGreatDoorHJ22
namespace Go.Proofs.YtgaegajcejpmdaaGreatDoor
open Go.RowKit
set_option linter.unusedVariables false
set_option linter.unusedSimpArgs false

def sShort : ByteArray := ⟨#[115, 104, 111, 114, 116]⟩
def sFloat : ByteArray := ⟨#[102, 108, 111, 97, 116]⟩
def sA : ByteArray := ⟨#[32, 45, 51, 50, 55, 54, 56, 32]⟩
def sB : ByteArray := ⟨#[51, 50, 55, 54, 56]⟩
theorem fd_short : fdS sShort = (18, 0) := by simp [fdS, fdF, nmL, sShort, tlm]
theorem fd_float : fdS sFloat = (0, 6) := by simp [fdS, fdF, nmL, sFloat, tlm, odS, odL]
theorem sp_A : Dc.bl (Ch.spc sA 3) = [45, 51, 50, 55, 54, 56] := by rfl
theorem sp_B : Dc.bl (Ch.spc sB 3) = [51, 50, 55, 54, 56] := by rfl
theorem pa_A : Dc.parS (Dc.bl (Ch.spc sA 3)) = .ok (true, [3, 2, 7, 6, 8], 0) := by rw [sp_A]; rfl
theorem pa_B : Dc.parS (Dc.bl (Ch.spc sB 3)) = .ok (false, [3, 2, 7, 6, 8], 0) := by rw [sp_B]; rfl
theorem cn_A : cntB 18 (Dc.bl (Ch.spc sA 3)) (true, [3, 2, 7, 6, 8], 0) = true := by rw [sp_A]; rfl
theorem cn_B : cntB 18 (Dc.bl (Ch.spc sB 3)) (false, [3, 2, 7, 6, 8], 0) = false := by rw [sp_B]; rfl
theorem tx_A : Dc.sb (Dc.txS (true, [3, 2, 7, 6, 8], 0)) = ⟨#[45, 51, 50, 55, 54, 56]⟩ := by rfl
theorem dv_k : dvS 18 11 = true := by decide
theorem nm_7 : nmS 7 = ⟨#[73, 68]⟩ := by rfl
theorem pA (w : World) (hw : Lw w) : Calls Tryz.prog 21 #[.int .i64 18, .string ⟨#[32, 45, 51, 50, 55, 54, 56, 32]⟩] w fun e w' => ∃ va vc, e = .returned (.tuple #[vlV 10 ⟨#[]⟩ true (.slice va 5 vc) 0 z0 sp0, .int .i64 0]) ∧ Dc.NmR w' (.slice va 5 vc) (true, [3, 2, 7, 6, 8], 0) ∧ Below w.heap.size w w' := by
  have h := parseN 18 sA w (by omega) (by omega) (by decide) (by decide) hw pa_A
  rw [cn_A] at h
  refine h.mono ?_
  rintro e w' ⟨hb, h1, _⟩
  obtain ⟨p, tx, ng, sl, l, sc, m, q, rfl, hbt, rfl, rfl, rfl, rfl, rfl, rfl, rfl⟩ := h1 rfl
  obtain ⟨va, vc, rfl, _⟩ := hbt.form
  exact ⟨va, vc, rfl, ⟨hbt, (Dc.par_ok pa_A).1, (Dc.par_ok pa_A).2.2.1⟩, hb⟩
theorem pB (w : World) (hw : Lw w) : Calls Tryz.prog 21 #[.int .i64 18, .string ⟨#[51, 50, 55, 54, 56]⟩] w fun e w' => e = .returned (.tuple #[vlV 0 ⟨#[]⟩ false (.slice none 0 0) 0 z0 sp0, .int .i64 2]) ∧ Below w.heap.size w w' := by
  have h := parseN 18 sB w (by omega) (by omega) (by decide) (by decide) hw pa_B
  rw [cn_B] at h
  refine h.mono ?_
  rintro e w' ⟨hb, _, h2⟩
  exact ⟨h2 rfl, hb⟩
theorem fS (w : World) (hw : Lw w) : Calls Tryz.prog 9 #[.string ⟨#[115, 104, 111, 114, 116]⟩] w fun e w' => e = .returned (.tuple #[.int .i64 18, .int .i64 0]) ∧ w' = w := by
  have h := find_k sShort w hw.nm
  rw [fd_short] at h
  exact h
theorem fF (w : World) (hw : Lw w) : Calls Tryz.prog 9 #[.string ⟨#[102, 108, 111, 97, 116]⟩] w fun e w' => e = .returned (.tuple #[.int .i64 0, .int .i64 6]) ∧ w' = w := by
  have h := find_k sFloat w hw.nm
  rw [fd_float] at h
  exact h
theorem n7 (w : World) (hw : Lw w) : Calls Tryz.prog 11 #[.int .i64 7] w fun e w' => e = .returned (.string ⟨#[73, 68]⟩) ∧ w' = w := by
  have h := name_k 7 w hw.nm
  rw [nm_7] at h
  exact h
theorem d18 (w : World) : Calls Tryz.prog 19 #[.int .i64 18, .int .i64 11] w fun e w' => e = .returned (.bool true) ∧ w' = w := by
  have h := derived_k 18 11 w
  rw [dv_k] at h
  exact h
end Go.Proofs.YtgaegajcejpmdaaGreatDoor
namespace Go.Proofs.YtgaegajcejpmdaaGreatDoor
open Go.RowKit
set_option linter.unusedVariables false
set_option linter.unusedSimpArgs false

theorem p18 (w : World) : Calls Tryz.prog 15 #[.int .i64 18] w fun e w' => e = .returned (.int .i64 10) ∧ w' = w := prim10 18 (by omega) (by omega) w
theorem tA {w : World} {va : Option Addr} {vc : Nat} (h : Dc.NmR w (.slice va 5 vc) (true, [3, 2, 7, 6, 8], 0)) : Calls Tryz.prog 32 #[.agg #[.bool true, .slice va 5 vc, .int .i64 0]] w fun e w' => e = .returned (.string ⟨#[45, 51, 50, 55, 54, 56]⟩) ∧ Below w.heap.size w w' := by
  have := Dc.text_p h
  rw [tx_A] at this
  exact this
theorem tB {w : World} {va : Option Addr} {vc : Nat} (h : Dc.NmR w (.slice va 5 vc) (true, [3, 2, 7, 6, 8], 0)) : Calls Tryz.prog 24 #[.agg #[.int .i64 10, .string ⟨#[]⟩, .bool true, .slice va 5 vc, .int .i64 0, .int .i64 0, .int .i64 0, .int .i64 0, .int .i64 0, .int .i64 0, .int .i64 0, .bool false, .int .i64 0, .int .i64 0, .int .i64 0, .int .i64 0]] w fun e w' => e = .returned (.string ⟨#[45, 51, 50, 55, 54, 56]⟩) ∧ Below w.heap.size w w' := by
  have := textN ⟨#[]⟩ z0 sp0 h
  rw [tx_A] at this
  exact this
set_option maxRecDepth 100000 in
set_option maxHeartbeats 6400000 in
theorem known_l (w : World) (hw : Lw w) : Calls Tryz.prog 8 #[] w fun e w' => e = .returned (.bool true) ∧ Below w.heap.size w w' := by
  go_enter Tryz.func8, Tryz.ntmps8
  go_wp2_with (go_at_call 9; (with_reducible refine Calls.mono (fS _ hw) ?_); rintro e w8 ⟨rfl, hw1⟩; have hw2 := hw1.symm; clear hw1; subst hw2)
  refine Calls.mono (pA _ hw) ?_
  rintro e w2 ⟨va, vc, rfl, hn, hb2⟩
  have hbx := BX.new w2 40 [.int .i64 10, .string ⟨#[]⟩, .bool true, .slice va 5 vc, .int .i64 0, .int .i64 0, .int .i64 0, .int .i64 0, .int .i64 0, .int .i64 0, .int .i64 0, .bool false, .int .i64 0, .int .i64 0, .int .i64 0, .int .i64 0]
  have hbU := hb2.trans (hbx.bel.mono hb2.size)
  have hnU := hn.below hbx.bel
  have HU : Hid _ := And.intro hbU (And.intro hnU hbx.blk)
  clear hn hb2 hbU hnU hbx
  go_wp2_with (refine wpList_store_row rfl 40 _ _ rfl _ _ rfl rfl 40 _ (nw_heap _ _) (by kernel_rfl) rfl (by simp [Value.oneCell']) ?_; rw [alloc_setRow])
  have hU1 := HU.out.1
  have hU2 := HU.out.2.1
  have hU3 := HU.out.2.2
  clear HU
  generalize w2.alloc (.cells #[.int .i64 10, .string ⟨#[]⟩, .bool true, .slice va 5 vc, .int .i64 0, .int .i64 0, .int .i64 0, .int .i64 0, .int .i64 0, .int .i64 0, .int .i64 0, .bool false, .int .i64 0, .int .i64 0, .int .i64 0, .int .i64 0] 40) = U at *
  refine Calls.mono (pB _ (hw.below hU1)) ?_
  rintro e w4 ⟨rfl, hb4⟩
  have hby := BX.new w4 40 [.int .i64 0, .string ⟨#[]⟩, .bool false, .slice none 0 0, .int .i64 0, .int .i64 0, .int .i64 0, .int .i64 0, .int .i64 0, .int .i64 0, .int .i64 0, .bool false, .int .i64 0, .int .i64 0, .int .i64 0, .int .i64 0]
  have hb5 := hb4.trans (hby.bel.mono hb4.size)
  have HV : Hid _ := And.intro (hU1.trans (hb5.mono hU1.size)) (And.intro (hU2.below hb5) ((hb5.block _ (Dc.lt_of hU3)).trans hU3))
  clear hU1 hU2 hU3 hb4 hby hb5
  have hw5 := hw.below HV.out.1
  have HW5 : Hid _ := hw5
  clear hw5
  go_upto_region 5 with (first | (refine wpList_store_row rfl 40 _ _ rfl _ _ rfl rfl 40 _ (nw_heap _ _) (by kernel_rfl) rfl (by simp [Value.oneCell']) ?_; rw [alloc_setRow]) | (go_at_call 9; (with_reducible refine Calls.mono (fF _ HW5.out) ?_); rintro e w8 ⟨rfl, hw1⟩; have hw2 := hw1.symm; clear hw1; subst hw2))
  generalize w4.alloc (.cells #[.int .i64 0, .string ⟨#[]⟩, .bool false, .slice none 0 0, .int .i64 0, .int .i64 0, .int .i64 0, .int .i64 0, .int .i64 0, .int .i64 0, .int .i64 0, .bool false, .int .i64 0, .int .i64 0, .int .i64 0, .int .i64 0] 40) = V at *
  have HK : Hid (∀ W, Below V.heap.size V W → W.heap[w2.heap.size]? = some (.cells #[.int .i64 10, .string ⟨#[]⟩, .bool true, .slice va 5 vc, .int .i64 0, .int .i64 0, .int .i64 0, .int .i64 0, .int .i64 0, .int .i64 0, .int .i64 0, .bool false, .int .i64 0, .int .i64 0, .int .i64 0, .int .i64 0] 40 (0, 0))) := fun W hW => (hW.block _ (Dc.lt_of HV.out.2.2)).trans HV.out.2.2
  obtain ⟨g0, g1, g2, g3, g4, g5, g6, g7, g8, g9, g10, g11, g12, g13, g14, g15⟩ := c16 HV.out.2.2
  have HB : Hid (Below V.heap.size V V) := Below.refl _ _
  go_wp2_with (first
    | (go_at_call 32; (with_reducible refine Calls.mono (tA (HV.out.2.1.below HB.out)) ?_); rintro e w9 ⟨rfl, hb9⟩; have hbb := HB.out.trans (hb9.mono HB.out.size); clear HB g0 g1 g2 g3 g4 g5 g6 g7 g8 g9 g10 g11 g12 g13 g14 g15; obtain ⟨g0, g1, g2, g3, g4, g5, g6, g7, g8, g9, g10, g11, g12, g13, g14, g15⟩ := c16 (HK.out _ hbb); have HB : Hid _ := hbb; clear hbb hb9)
    | (go_at_call 19; (with_reducible refine Calls.mono (d18 _) ?_); rintro e w8 ⟨rfl, hw1⟩; have hw2 := hw1.symm; clear hw1; subst hw2)
    | (go_at_call 15; (with_reducible refine Calls.mono (p18 _) ?_); rintro e w8 ⟨rfl, hw1⟩; have hw2 := hw1.symm; clear hw1; subst hw2)
    | (go_at_call 11; (with_reducible refine Calls.mono (n7 _ (HW5.out.below HB.out)) ?_); rintro e w8 ⟨rfl, hw1⟩; have hw2 := hw1.symm; clear hw1; subst hw2)
    | (go_at_call 24; (with_reducible refine Calls.mono (tB (HV.out.2.1.below HB.out)) ?_); rintro e w9 ⟨rfl, hb9⟩; have hbb := HB.out.trans (hb9.mono HB.out.size); clear HB g0 g1 g2 g3 g4 g5 g6 g7 g8 g9 g10 g11 g12 g13 g14 g15; obtain ⟨g0, g1, g2, g3, g4, g5, g6, g7, g8, g9, g10, g11, g12, g13, g14, g15⟩ := c16 (HK.out _ hbb); have HB : Hid _ := hbb; clear hbb hb9))
  go_ret
  exact ⟨rfl, HV.out.1.trans (HB.out.mono HV.out.1.size)⟩
end Go.Proofs.YtgaegajcejpmdaaGreatDoor
