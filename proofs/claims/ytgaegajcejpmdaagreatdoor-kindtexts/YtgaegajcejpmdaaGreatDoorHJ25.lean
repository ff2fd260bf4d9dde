/- Joined: HK25, HK26, HK27, HK30, HK13, HK14. -/
import Derived.Test.YtgaegajcejpmdaaGreatDoorHJ22
import Derived.Test.YtgaegajcejpmdaaGreatDoorHJ24
import Derived.Test.YtgaegajcejpmdaaGreatDoorHJ9
import Derived.Test.YtgaegajcejpmdaaGreatDoorHJ19
import Derived.Test.YtgaegajcejpmdaaGreatDoorHJ18
namespace Go.Proofs.YtgaegajcejpmdaaGreatDoor
open Go.RowKit
set_option linter.unusedVariables false
set_option linter.unusedSimpArgs false

end Go.Proofs.YtgaegajcejpmdaaGreatDoor
namespace Go.Proofs.YtgaegajcejpmdaaGreatDoor
open Go.RowKit
set_option linter.unusedVariables false
set_option linter.unusedSimpArgs false

theorem parse_bad (k : Int) (s : ByteArray) (w : World) (hk : isK k = false) : Calls Tryz.prog 21 #[.int .i64 k, .string s] w fun e w' => e = .returned (.tuple #[vlV 0 ⟨#[]⟩ false (.slice none 0 0) 0 z0 sp0, .int .i64 1]) ∧ Below w.heap.size w w' := by
  have hbx := BX.new w 40 [.int .i64 0, .string ⟨#[]⟩, .bool false, .slice none 0 0, .int .i64 0, .int .i64 0, .int .i64 0, .int .i64 0, .int .i64 0, .int .i64 0, .int .i64 0, .bool false, .int .i64 0, .int .i64 0, .int .i64 0, .int .i64 0]
  have hA := nw_heap w (.cells #[.int .i64 0, .string ⟨#[]⟩, .bool false, .slice none 0 0, .int .i64 0, .int .i64 0, .int .i64 0, .int .i64 0, .int .i64 0, .int .i64 0, .int .i64 0, .bool false, .int .i64 0, .int .i64 0, .int .i64 0, .int .i64 0] 40)
  have HX : Hid _ := hbx
  clear hbx
  go_enter Tryz.func21, Tryz.ntmps21
  go_wp2_with (first | (go_at_call 33; refine (known_k _ _).mono ?_; rintro e w' ⟨rfl, hw1⟩; have hw2 := hw1.symm; clear hw1; subst hw2) | (refine wpList_store_row rfl 40 _ _ rfl w.heap.size _ rfl rfl 40 _ hA (by kernel_rfl) rfl (by simp [Value.oneCell']) ?_; rw [alloc_setRow]))
  exact bodyPost_ret (v := .tuple #[vlV 0 ⟨#[]⟩ false (.slice none 0 0) 0 z0 sp0, .int .i64 1]) (by refine (res2 (X := w.heap.size) Tryz.results21 ?_ HX.out.blk rfl).trans ?_ <;> rfl) rfl ⟨rfl, HX.out.bel⟩
theorem box_two (w : World) (x y : Obj) : ((w.alloc x).alloc y).heap[w.heap.size]? = some x ∧ ((w.alloc x).alloc y).heap[w.heap.size + 1]? = some y ∧ Below w.heap.size w ((w.alloc x).alloc y) := by
  have h1 := nw_heap w x
  have h2 := nw_heap (w.alloc x) y
  have hs : (w.alloc x).heap.size = w.heap.size + 1 := by simp
  have hb : Below (w.alloc x).heap.size (w.alloc x) ((w.alloc x).alloc y) := (Below.refl _ _).alloc (Nat.le_refl _) _
  have ha : Below w.heap.size w (w.alloc x) := (Below.refl _ _).alloc (Nat.le_refl _) _
  rw [hs] at h2
  exact ⟨(hb.block _ (by rw [hs]; omega)).trans h1, h2, ha.trans (hb.mono ha.size)⟩
set_option maxRecDepth 100000 in
set_option maxHeartbeats 1600000 in
theorem same_p {w : World} {v1 v2 : Value} {d1 d2 : Kd} (h1 : VlA w v1 d1) (h2 : VlA w v2 d2) (o1 : KdOk d1) (o2 : KdOk d2) : Calls Tryz.prog 26 #[v1, v2] w fun e w' => e = .returned (.bool (cmpD d1 d2 == 0)) ∧ Below w.heap.size w w' := by
  have hc := fun W (hW : Below w.heap.size w W) => p_any (h1.below hW) (h2.below hW) o1 o2
  obtain ⟨a1, c1, rfl, b1⟩ := h1
  obtain ⟨a2, c2, rfl, b2⟩ := h2
  generalize d1.pr = p1 at *
  generalize d1.tx = t1 at *
  generalize d1.nm.1 = g1 at *
  generalize d1.nm.2.1.length = b1x at *
  generalize ((d1.nm.2.2 : Nat) : Int) = s1 at *
  generalize d1.mo = m1 at *
  generalize d1.sp = q1 at *
  generalize d2.pr = p2 at *
  generalize d2.tx = t2 at *
  generalize d2.nm.1 = g2 at *
  generalize d2.nm.2.1.length = b2x at *
  generalize ((d2.nm.2.2 : Nat) : Int) = s2 at *
  generalize d2.mo = m2 at *
  generalize d2.sp = q2 at *
  generalize cmpD d1 d2 = x at *
  obtain ⟨hx, hy, hb⟩ := box_two w (.cells #[.int .i64 p1, .string t1, .bool g1, .slice a1 b1x c1, .int .i64 s1, .int .i64 m1.k, .int .i64 m1.y, .int .i64 m1.m, .int .i64 m1.d, .int .i64 m1.s, .int .i64 m1.n, .bool m1.hz, .int .i64 m1.z, .int .i64 q1.o, .int .i64 q1.s, .int .i64 q1.n] 40) (.cells #[.int .i64 p2, .string t2, .bool g2, .slice a2 b2x c2, .int .i64 s2, .int .i64 m2.k, .int .i64 m2.y, .int .i64 m2.m, .int .i64 m2.d, .int .i64 m2.s, .int .i64 m2.n, .bool m2.hz, .int .i64 m2.z, .int .i64 q2.o, .int .i64 q2.s, .int .i64 q2.n] 40)
  have HC : Hid _ := And.intro (hc _ hb) hb
  clear hc hb b1 b2 o1 o2
  go_enter Tryz.func26, Tryz.ntmps26
  go_wp2_with (first | (refine wpList_load_row rfl 40 _ rfl w.heap.size rfl 40 _ (0, 0) _ hx Tryz.underlying40 rfl (by kernel_rfl) ?_) | (refine wpList_load_row rfl 40 _ rfl (w.heap.size + 1) rfl 40 _ (0, 0) _ hy Tryz.underlying40 rfl (by kernel_rfl) ?_) | (go_at_call 27; refine Calls.mono HC.out.1 ?_; rintro e w9 ⟨rfl, hb9⟩))
  go_ret
  exact ⟨rfl, HC.out.2.trans (hb9.mono HC.out.2.size)⟩
theorem textT (p : Int) (h : p = 1 ∨ p = 9) (t : ByteArray) (g : Bool) (a : Option Addr) (b c : Nat) (s : Int) (m : Dt.Mo) (q : Dt.Sp) (w : World) : Calls Tryz.prog 24 #[vlV p t g (.slice a b c) s m q] w fun e w' => e = .returned (.string t) ∧ Below w.heap.size w w' := by
  have hb : Below w.heap.size w (w.alloc (.cells #[.int .i64 p, .string t, .bool g, .slice a b c, .int .i64 s, .int .i64 m.k, .int .i64 m.y, .int .i64 m.m, .int .i64 m.d, .int .i64 m.s, .int .i64 m.n, .bool m.hz, .int .i64 m.z, .int .i64 q.o, .int .i64 q.s, .int .i64 q.n] 40)) := (Below.refl _ _).alloc (Nat.le_refl _) _
  rcases h with rfl | rfl
  all_goals
    have HB : Hid _ := hb
    clear hb
    go_enter Tryz.func24, Tryz.ntmps24
    go_wp2_with fail
    go_ret
    exact ⟨rfl, HB.out⟩
end Go.Proofs.YtgaegajcejpmdaaGreatDoor
namespace Go.Proofs.YtgaegajcejpmdaaGreatDoor
open Go.RowKit
set_option linter.unusedVariables false
set_option linter.unusedSimpArgs false

end Go.Proofs.YtgaegajcejpmdaaGreatDoor
namespace Go.Proofs.YtgaegajcejpmdaaGreatDoor
open Go.RowKit
set_option linter.unusedVariables false

def Wht (l : List Int) : Prop := ∀ c ∈ l, Ch.isWhite c = true
theorem Wht.nil : Wht [] := by intro c hc; simp at hc
theorem Wht.app {a b : List Int} (ha : Wht a) (hb : Wht b) : Wht (a ++ b) := by
  intro c hc
  rcases List.mem_append.1 hc with h | h
  · exact ha c h
  · exact hb c h
theorem cmp_self {d : Kd} (h : KdOk d) : cmpD d d = 0 := by
  cases d with
  | txt p t => simp [cmpD]
  | num n => exact (Dc.cmp_zero h.1 h.1).2 rfl
  | mom k m => simp [cmpD, Dt.cmp_self]
  | spn q => exact Dt.cmpP_self q
end Go.Proofs.YtgaegajcejpmdaaGreatDoor
namespace Go.Proofs.YtgaegajcejpmdaaGreatDoor
open Go.RowKit
set_option linter.unusedVariables false
set_option linter.unusedSimpArgs false

def sShort : ByteArray := ⟨#[115, 104, 111, 114, 116]⟩
def sFloat : ByteArray := ⟨#[102, 108, 111, 97, 116]⟩
def sA : ByteArray := ⟨#[32, 45, 51, 50, 55, 54, 56, 32]⟩
def sB : ByteArray := ⟨#[51, 50, 55, 54, 56]⟩
theorem fd_short : fdS sShort = (18, 0) := by simp [fdS, fdF, nmL, sShort, tlm]
theorem fd_float : fdS sFloat = (0, 6) := by simp [fdS, fdF, nmL, sFloat, tlm, odS, odL]
theorem sp_A : Dc.bl (Ch.spc sA 3) = [45, 51, 50, 55, 54, 56] := by rfl
theorem sp_B : Dc.bl (Ch.spc sB 3) = [51, 50, 55, 54, 56] := by rfl
theorem pa_A : Dc.parS (Dc.bl (Ch.spc sA 3)) = .ok (true, [3, 2, 7, 6, 8], 0) := by rw [sp_A]; rfl
theorem pa_B : Dc.parS (Dc.bl (Ch.spc sB 3)) = .ok (false, [3, 2, 7, 6, 8], 0) := by rw [sp_B]; rfl
theorem cn_A : cntB 18 (Dc.bl (Ch.spc sA 3)) (true, [3, 2, 7, 6, 8], 0) = true := by rw [sp_A]; rfl
theorem cn_B : cntB 18 (Dc.bl (Ch.spc sB 3)) (false, [3, 2, 7, 6, 8], 0) = false := by rw [sp_B]; rfl
theorem tx_A : Dc.sb (Dc.txS (true, [3, 2, 7, 6, 8], 0)) = ⟨#[45, 51, 50, 55, 54, 56]⟩ := by rfl
theorem dv_k : dvS 18 11 = true := by decide
theorem nm_7 : nmS 7 = ⟨#[73, 68]⟩ := by rfl
theorem pA (w : World) (hw : Lw w) : Calls Tryz.prog 21 #[.int .i64 18, .string ⟨#[32, 45, 51, 50, 55, 54, 56, 32]⟩] w fun e w' => ∃ va vc, e = .returned (.tuple #[vlV 10 ⟨#[]⟩ true (.slice va 5 vc) 0 z0 sp0, .int .i64 0]) ∧ Dc.NmR w' (.slice va 5 vc) (true, [3, 2, 7, 6, 8], 0) ∧ Below w.heap.size w w' := by
  have h := parseN 18 sA w (by omega) (by omega) (by decide) (by decide) hw pa_A
  rw [cn_A] at h
  refine h.mono ?_
  rintro e w' ⟨hb, h1, _⟩
  obtain ⟨p, tx, ng, sl, l, sc, m, q, rfl, hbt, rfl, rfl, rfl, rfl, rfl, rfl, rfl⟩ := h1 rfl
  obtain ⟨va, vc, rfl, _⟩ := hbt.form
  exact ⟨va, vc, rfl, ⟨hbt, (Dc.par_ok pa_A).1, (Dc.par_ok pa_A).2.2.1⟩, hb⟩
theorem pB (w : World) (hw : Lw w) : Calls Tryz.prog 21 #[.int .i64 18, .string ⟨#[51, 50, 55, 54, 56]⟩] w fun e w' => e = .returned (.tuple #[vlV 0 ⟨#[]⟩ false (.slice none 0 0) 0 z0 sp0, .int .i64 2]) ∧ Below w.heap.size w w' := by
  have h := parseN 18 sB w (by omega) (by omega) (by decide) (by decide) hw pa_B
  rw [cn_B] at h
  refine h.mono ?_
  rintro e w' ⟨hb, _, h2⟩
  exact ⟨h2 rfl, hb⟩
theorem fS (w : World) (hw : Lw w) : Calls Tryz.prog 9 #[.string ⟨#[115, 104, 111, 114, 116]⟩] w fun e w' => e = .returned (.tuple #[.int .i64 18, .int .i64 0]) ∧ w' = w := by
  have h := find_k sShort w hw.nm
  rw [fd_short] at h
  exact h
theorem fF (w : World) (hw : Lw w) : Calls Tryz.prog 9 #[.string ⟨#[102, 108, 111, 97, 116]⟩] w fun e w' => e = .returned (.tuple #[.int .i64 0, .int .i64 6]) ∧ w' = w := by
  have h := find_k sFloat w hw.nm
  rw [fd_float] at h
  exact h
theorem n7 (w : World) (hw : Lw w) : Calls Tryz.prog 11 #[.int .i64 7] w fun e w' => e = .returned (.string ⟨#[73, 68]⟩) ∧ w' = w := by
  have h := name_k 7 w hw.nm
  rw [nm_7] at h
  exact h
theorem d18 (w : World) : Calls Tryz.prog 19 #[.int .i64 18, .int .i64 11] w fun e w' => e = .returned (.bool true) ∧ w' = w := by
  have h := derived_k 18 11 w
  rw [dv_k] at h
  exact h
end Go.Proofs.YtgaegajcejpmdaaGreatDoor
namespace Go.Proofs.YtgaegajcejpmdaaGreatDoor
open Go.RowKit
set_option linter.unusedVariables false
set_option linter.unusedSimpArgs false

theorem p18 (w : World) : Calls Tryz.prog 15 #[.int .i64 18] w fun e w' => e = .returned (.int .i64 10) ∧ w' = w := prim10 18 (by omega) (by omega) w
theorem tA {w : World} {va : Option Addr} {vc : Nat} (h : Dc.NmR w (.slice va 5 vc) (true, [3, 2, 7, 6, 8], 0)) : Calls Tryz.prog 32 #[.agg #[.bool true, .slice va 5 vc, .int .i64 0]] w fun e w' => e = .returned (.string ⟨#[45, 51, 50, 55, 54, 56]⟩) ∧ Below w.heap.size w w' := by
  have := Dc.text_p h
  rw [tx_A] at this
  exact this
theorem tB {w : World} {va : Option Addr} {vc : Nat} (h : Dc.NmR w (.slice va 5 vc) (true, [3, 2, 7, 6, 8], 0)) : Calls Tryz.prog 24 #[.agg #[.int .i64 10, .string ⟨#[]⟩, .bool true, .slice va 5 vc, .int .i64 0, .int .i64 0, .int .i64 0, .int .i64 0, .int .i64 0, .int .i64 0, .int .i64 0, .bool false, .int .i64 0, .int .i64 0, .int .i64 0, .int .i64 0]] w fun e w' => e = .returned (.string ⟨#[45, 51, 50, 55, 54, 56]⟩) ∧ Below w.heap.size w w' := by
  have := textN ⟨#[]⟩ z0 sp0 h
  rw [tx_A] at this
  exact this
set_option maxRecDepth 100000 in
set_option maxHeartbeats 6400000 in
theorem known_l (w : World) (hw : Lw w) : Calls Tryz.prog 8 #[] w fun e w' => e = .returned (.bool true) ∧ Below w.heap.size w w' := by
  go_enter Tryz.func8, Tryz.ntmps8
  go_wp2_with (go_at_call 9; (with_reducible refine Calls.mono (fS _ hw) ?_); rintro e w8 ⟨rfl, hw1⟩; have hw2 := hw1.symm; clear hw1; subst hw2)
  refine Calls.mono (pA _ hw) ?_
  rintro e w2 ⟨va, vc, rfl, hn, hb2⟩
  have hbx := BX.new w2 40 [.int .i64 10, .string ⟨#[]⟩, .bool true, .slice va 5 vc, .int .i64 0, .int .i64 0, .int .i64 0, .int .i64 0, .int .i64 0, .int .i64 0, .int .i64 0, .bool false, .int .i64 0, .int .i64 0, .int .i64 0, .int .i64 0]
  have hbU := hb2.trans (hbx.bel.mono hb2.size)
  have hnU := hn.below hbx.bel
  have HU : Hid _ := And.intro hbU (And.intro hnU hbx.blk)
  clear hn hb2 hbU hnU hbx
  go_wp2_with (refine wpList_store_row rfl 40 _ _ rfl _ _ rfl rfl 40 _ (nw_heap _ _) (by kernel_rfl) rfl (by simp [Value.oneCell']) ?_; rw [alloc_setRow])
  have hU1 := HU.out.1
  have hU2 := HU.out.2.1
  have hU3 := HU.out.2.2
  clear HU
  generalize w2.alloc (.cells #[.int .i64 10, .string ⟨#[]⟩, .bool true, .slice va 5 vc, .int .i64 0, .int .i64 0, .int .i64 0, .int .i64 0, .int .i64 0, .int .i64 0, .int .i64 0, .bool false, .int .i64 0, .int .i64 0, .int .i64 0, .int .i64 0] 40) = U at *
  refine Calls.mono (pB _ (hw.below hU1)) ?_
  rintro e w4 ⟨rfl, hb4⟩
  have hby := BX.new w4 40 [.int .i64 0, .string ⟨#[]⟩, .bool false, .slice none 0 0, .int .i64 0, .int .i64 0, .int .i64 0, .int .i64 0, .int .i64 0, .int .i64 0, .int .i64 0, .bool false, .int .i64 0, .int .i64 0, .int .i64 0, .int .i64 0]
  have hb5 := hb4.trans (hby.bel.mono hb4.size)
  have HV : Hid _ := And.intro (hU1.trans (hb5.mono hU1.size)) (And.intro (hU2.below hb5) ((hb5.block _ (Dc.lt_of hU3)).trans hU3))
  clear hU1 hU2 hU3 hb4 hby hb5
  have hw5 := hw.below HV.out.1
  have HW5 : Hid _ := hw5
  clear hw5
  go_upto_region 5 with (first | (refine wpList_store_row rfl 40 _ _ rfl _ _ rfl rfl 40 _ (nw_heap _ _) (by kernel_rfl) rfl (by simp [Value.oneCell']) ?_; rw [alloc_setRow]) | (go_at_call 9; (with_reducible refine Calls.mono (fF _ HW5.out) ?_); rintro e w8 ⟨rfl, hw1⟩; have hw2 := hw1.symm; clear hw1; subst hw2))
  generalize w4.alloc (.cells #[.int .i64 0, .string ⟨#[]⟩, .bool false, .slice none 0 0, .int .i64 0, .int .i64 0, .int .i64 0, .int .i64 0, .int .i64 0, .int .i64 0, .int .i64 0, .bool false, .int .i64 0, .int .i64 0, .int .i64 0, .int .i64 0] 40) = V at *
  have HK : Hid (∀ W, Below V.heap.size V W → W.heap[w2.heap.size]? = some (.cells #[.int .i64 10, .string ⟨#[]⟩, .bool true, .slice va 5 vc, .int .i64 0, .int .i64 0, .int .i64 0, .int .i64 0, .int .i64 0, .int .i64 0, .int .i64 0, .bool false, .int .i64 0, .int .i64 0, .int .i64 0, .int .i64 0] 40 (0, 0))) := fun W hW => (hW.block _ (Dc.lt_of HV.out.2.2)).trans HV.out.2.2
  obtain ⟨g0, g1, g2, g3, g4, g5, g6, g7, g8, g9, g10, g11, g12, g13, g14, g15⟩ := c16 HV.out.2.2
  have HB : Hid (Below V.heap.size V V) := Below.refl _ _
  go_wp2_with (first
    | (go_at_call 32; (with_reducible refine Calls.mono (tA (HV.out.2.1.below HB.out)) ?_); rintro e w9 ⟨rfl, hb9⟩; have hbb := HB.out.trans (hb9.mono HB.out.size); clear HB g0 g1 g2 g3 g4 g5 g6 g7 g8 g9 g10 g11 g12 g13 g14 g15; obtain ⟨g0, g1, g2, g3, g4, g5, g6, g7, g8, g9, g10, g11, g12, g13, g14, g15⟩ := c16 (HK.out _ hbb); have HB : Hid _ := hbb; clear hbb hb9)
    | (go_at_call 19; (with_reducible refine Calls.mono (d18 _) ?_); rintro e w8 ⟨rfl, hw1⟩; have hw2 := hw1.symm; clear hw1; subst hw2)
    | (go_at_call 15; (with_reducible refine Calls.mono (p18 _) ?_); rintro e w8 ⟨rfl, hw1⟩; have hw2 := hw1.symm; clear hw1; subst hw2)
    | (go_at_call 11; (with_reducible refine Calls.mono (n7 _ (HW5.out.below HB.out)) ?_); rintro e w8 ⟨rfl, hw1⟩; have hw2 := hw1.symm; clear hw1; subst hw2)
    | (go_at_call 24; (with_reducible refine Calls.mono (tB (HV.out.2.1.below HB.out)) ?_); rintro e w9 ⟨rfl, hb9⟩; have hbb := HB.out.trans (hb9.mono HB.out.size); clear HB g0 g1 g2 g3 g4 g5 g6 g7 g8 g9 g10 g11 g12 g13 g14 g15; obtain ⟨g0, g1, g2, g3, g4, g5, g6, g7, g8, g9, g10, g11, g12, g13, g14, g15⟩ := c16 (HK.out _ hbb); have HB : Hid _ := hbb; clear hbb hb9))
  go_ret
  exact ⟨rfl, HV.out.1.trans (HB.out.mono HV.out.1.size)⟩
end Go.Proofs.YtgaegajcejpmdaaGreatDoor
