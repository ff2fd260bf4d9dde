/- The program: farther, Cmp; the library's Compare at numbers and at bytes, Or. -/
import Derived.Test.YtgaegajcejpmdaaGreatDoorHJ9
import Derived.Lib.Bytealg
import Derived.Lib.BytesEntry
import Derived.Deep.RegionHeld3
namespace Go.Proofs.YtgaegajcejpmdaaGreatDoor.Dc
open Go.RowKit
set_option linter.unusedVariables false
set_option linter.unusedSimpArgs false

def ciS (x y : Int) : Int := if x < y then -1 else if y < x then 1 else 0
theorem cmpi_p (x y : Int) (w : World) : Calls Tryz.prog 99 #[.int .i64 x, .int .i64 y] w fun e w' => e = .returned (.int .i64 (ciS x y)) ∧ w' = w := by
  have hs : ciS x y = if x < y then -1 else if y < x then 1 else 0 := rfl
  generalize ciS x y = R at *
  by_cases h1 : x < y
  · rw [if_pos h1] at hs
    subst hs
    go_enter Tryz.func99, Tryz.ntmps99
    go_wp2
    go_ret
    exact ⟨rfl, rfl⟩
  · rw [if_neg h1] at hs
    by_cases h2 : y < x
    · rw [if_pos h2] at hs
      subst hs
      go_enter Tryz.func99, Tryz.ntmps99
      go_wp2
      go_ret
      exact ⟨rfl, rfl⟩
    · rw [if_neg h2] at hs
      subst hs
      go_enter Tryz.func99, Tryz.ntmps99
      go_wp2
      go_ret
      exact ⟨rfl, rfl⟩
theorem cb_lx : ∀ (a b : List Int), (∀ d ∈ a, 0 ≤ d ∧ d < 256) → (∀ d ∈ b, 0 ≤ d ∧ d < 256) → Lib.compareBytes (Lib.bytesOf a) (Lib.bytesOf b) = lxS a b
  | [], [], _, _ => rfl
  | [], _ :: _, _, _ => rfl
  | _ :: _, [], _, _ => rfl
  | x :: a, y :: b, ha, hb => by
    have hx := ha x (by simp)
    have hy := hb y (by simp)
    have ih := cb_lx a b (fun d hd => ha d (by simp [hd])) (fun d hd => hb d (by simp [hd]))
    show (if x.toNat.toUInt8 < y.toNat.toUInt8 then -1 else if y.toNat.toUInt8 < x.toNat.toUInt8 then 1 else Lib.compareBytes (Lib.bytesOf a) (Lib.bytesOf b)) = _
    have hlt : ∀ (p q : Int), 0 ≤ p ∧ p < 256 → 0 ≤ q ∧ q < 256 → (p.toNat.toUInt8 < q.toNat.toUInt8 ↔ p < q) := by
      intro p q hp hq
      rw [UInt8.lt_iff_toNat_lt, UInt8.toNat_ofNat', UInt8.toNat_ofNat', Nat.mod_eq_of_lt (by omega), Nat.mod_eq_of_lt (by omega)]
      omega
    rw [lxS, ih]
    by_cases e : x = y
    · rw [if_pos e, if_neg (by rw [hlt x y hx hy]; omega), if_neg (by rw [hlt y x hy hx]; omega)]
    · rw [if_neg e]
      by_cases l : x < y
      · rw [if_pos l, if_pos (by rw [hlt x y hx hy]; exact l)]
      · rw [if_neg l, if_neg (by rw [hlt x y hx hy]; exact l), if_pos (by rw [hlt y x hy hx]; omega)]
theorem bytes_run {w : World} {v : Value} {l : List Int} (h : BtR w v l) : (Extern.Bytes.bytesOf v).run Tryz.prog w = .ok ⟨(Lib.bytesOf l).toArray⟩ w := by
  obtain ⟨a, cap, rfl, h1, h2, h3, h4⟩ := h
  rcases h4 with rfl | ⟨g, o, rfl, h5, h6⟩
  · cases a with
    | none => rfl
    | some a => rfl
  · have := Lib.run_loadBytesX (P := Tryz.prog) w l ⟨g, o, none⟩ .empty (fun j x hj => by
      obtain ⟨hj', rfl⟩ := List.getElem?_eq_some_iff.1 hj
      rw [addr_add]
      exact h6 j hj')
    simpa [Extern.Bytes.bytesOf] using this
theorem bac_run {w : World} {v v' : Value} {l l' : List Int} (h : BtR w v l) (h' : BtR w v' l') : (callFunc 143 #[v, v']).run Tryz.prog w = .ok (.value (.int .i64 (lxS l l'))) w := by
  rw [run_callFunc_extern Tryz.func143 (by kernel_rfl) (by kernel_rfl) (by kernel_rfl) (e := Extern.BytealgCompare.compare) (by kernel_rfl)]
  have : (Extern.BytealgCompare.compare #[v, v']).run Tryz.prog w = .ok (.int .i64 (lxS l l')) w := by
    change Sem.run Tryz.prog (do pure (goInt (Extern.BytealgCompare.cmp (← Extern.Bytes.bytesOf v) (← Extern.Bytes.bytesOf v')))) w = _
    simp only [Sem.run_bind, bytes_run h, bytes_run h', Result.andThen, Sem.run_pure, Lib.cmp_eq]
    rw [cb_lx l l' h.byte h'.byte]
    rfl
  rw [this]
  rfl
theorem bcmp_p {w : World} {v v' : Value} {l l' : List Int} (h : BtR w v l) (h' : BtR w v' l') : Calls Tryz.prog 100 #[v, v'] w fun e w' => e = .returned (.int .i64 (lxS l l')) ∧ w' = w := by
  have hr := bac_run h h'
  obtain ⟨a, cap, rfl, _⟩ := h.form
  obtain ⟨a', cap', rfl, _⟩ := h'.form
  clear h h'
  go_enter Tryz.func100, Tryz.ntmps100
  go_wp2
  go_ret
  exact ⟨rfl, rfl⟩
set_option maxRecDepth 100000 in
theorem or_p {w : World} {T : Nat} {x y : Int} {c : Nat} (h0 : w.cell? ⟨T, 0, none⟩ = some (.int .i64 x)) (h1 : w.cell? ⟨T, 1, none⟩ = some (.int .i64 y)) : Calls Tryz.prog 98 #[.slice (some ⟨T, 0, none⟩) 2 2] w fun e w' => e = .returned (.int .i64 (if x = 0 then y else x)) ∧ w' = w := by
  have hs : ∃ R, R = if x = 0 then y else x := ⟨_, rfl⟩
  obtain ⟨R, hR⟩ := hs
  rw [← hR]
  have HR : Hid _ := hR
  clear hR
  go_enter Tryz.func98, Tryz.ntmps98
  go_wp2_with fail
  go_loopg [8] 2 (fun m v8 wr => ∃ i : Nat, v8 = .int .i64 i ∧ i + m = 2 ∧ wr = w ∧ Hid (1 ≤ i → x = 0) ∧ Hid (2 ≤ i → y = 0))
  case atStart => exact ⟨0, rfl, by omega, rfl, by intro h; omega, by intro h; omega⟩
  case round =>
    obtain ⟨i, rfl, him, hwr, hx, hy⟩ := hrel
    subst hwr
    have hi3 : i = 0 ∨ i = 1 ∨ i = 2 := by omega
    rcases hi3 with rfl | rfl | rfl
    · obtain rfl : gk = 2 := by omega
      by_cases e : x = 0
      · subst e
        go_wp2_with fail
        go_roundg 1
        case measure => omega
        case rel => exact ⟨1, rfl, by omega, rfl, by intro h; trivial, by intro h; omega⟩
      · have eb : (x == 0) = false := by simpa using e
        have eb2 : (x != 0) = true := by simpa using e
        have hR : R = x := by rw [HR.out, if_neg e]
        subst hR
        clear HR
        go_wp2_with fail
        go_ret
        exact ⟨rfl, rfl⟩
    · obtain rfl : gk = 1 := by omega
      have hx0 := hx.out (by omega)
      have hR : R = y := by rw [HR.out, if_pos hx0]
      by_cases e : y = 0
      · subst e
        clear hR
        go_wp2_with fail
        go_roundg 0
        case measure => omega
        case rel => exact ⟨2, rfl, by omega, rfl, fun _ => hx0, by intro h; trivial⟩
      · have eb : (y == 0) = false := by simpa using e
        have eb2 : (y != 0) = true := by simpa using e
        subst hR
        clear HR
        go_wp2_with fail
        go_ret
        exact ⟨rfl, rfl⟩
    · have hR : R = 0 := by rw [HR.out, if_pos (hx.out (by omega)), hy.out (by omega)]
      subst hR
      clear HR
      go_wp2_with fail
      go_ret
      exact ⟨rfl, rfl⟩
def orS (x y : Int) : Int := if x = 0 then y else x
theorem or_at (w : World) (x y : Int) : Calls Tryz.prog 98 #[.slice (some ⟨w.heap.size, 0, none⟩) 2 2] (w.alloc (.cells #[.int .i64 x, .int .i64 y] 3)) fun e w' => e = .returned (.int .i64 (orS x y)) ∧ w' = w.alloc (.cells #[.int .i64 x, .int .i64 y] 3) := by
  obtain ⟨h0, h1, _⟩ := fresh2 (nw_heap w (.cells #[.int .i64 x, .int .i64 y] 3))
  exact or_p (c := 2) h0 h1
theorem box2p (w : World) (x0 x1 x2 y0 y1 y2 : Value) : (((w.alloc (.cells #[x0, x1, x2] 34)).alloc (.cells #[y0, y1, y2] 34)).heap[w.heap.size]? = some (.cells #[x0, x1, x2] 34 (0, 0))) ∧ (((w.alloc (.cells #[x0, x1, x2] 34)).alloc (.cells #[y0, y1, y2] 34)).heap[w.heap.size + 1]? = some (.cells #[y0, y1, y2] 34 (0, 0))) ∧ Below w.heap.size w ((w.alloc (.cells #[x0, x1, x2] 34)).alloc (.cells #[y0, y1, y2] 34)) := by
  refine ⟨xa2 w _ _, ?_, ((Below.refl _ _).alloc (Nat.le_refl _) _).alloc (by simp) _⟩
  have := nw_heap (w.alloc (.cells #[x0, x1, x2] 34)) (.cells #[y0, y1, y2] 34)
  rwa [sza] at this
theorem far_eq {a b : Nm} (ha : CN a) (hb : CN b) : orS (ciS ((a.2.1.length : Int) - a.2.2) ((b.2.1.length : Int) - b.2.2)) (lxS a.2.1 b.2.1) = szS a b := by
  rw [← fc_sz ha hb]
  have l1 := ha.1.len
  have l2 := hb.1.len
  unfold orS ciS fcS
  by_cases h1 : a.2.1.length - a.2.2 < b.2.1.length - b.2.2
  · rw [if_pos (show (a.2.1.length : Int) - a.2.2 < (b.2.1.length : Int) - b.2.2 by omega), if_pos h1]
    rfl
  · rw [if_neg (show ¬ (a.2.1.length : Int) - a.2.2 < (b.2.1.length : Int) - b.2.2 by omega), if_neg h1]
    by_cases h2 : b.2.1.length - b.2.2 < a.2.1.length - a.2.2
    · rw [if_pos (show (b.2.1.length : Int) - b.2.2 < (a.2.1.length : Int) - a.2.2 by omega), if_pos h2]
      rfl
    · rw [if_neg (show ¬ (b.2.1.length : Int) - b.2.2 < (a.2.1.length : Int) - a.2.2 by omega), if_neg h2, if_pos rfl]
set_option maxRecDepth 100000 in
set_option maxHeartbeats 6400000 in
theorem farther_p {w : World} {v v' : Value} {a b : Nm} (ha : NmR w v a) (hb : NmR w v' b) : Calls Tryz.prog 55 #[nmV a.1 v a.2.2, nmV b.1 v' b.2.2] w fun e w' => e = .returned (.int .i64 (szS a b)) ∧ Below w.heap.size w w' := by
  have hfe := far_eq ha.cn hb.cn
  have la := ha.cn.1.len
  have lb := hb.cn.1.len
  have za := ha.le
  have zb := hb.le
  obtain ⟨x1, x2, hb0⟩ := box2p w (.bool a.1) v (.int .i64 a.2.2) (.bool b.1) v' (.int .i64 b.2.2)
  generalize hU : ((w.alloc (.cells #[.bool a.1, v, .int .i64 a.2.2] 34)).alloc (.cells #[.bool b.1, v', .int .i64 b.2.2] 34)) = U at x1 x2 hb0
  have qa := fun W (hW : Below U.heap.size U W) => ahead_p (ha.bt.below (hb0.trans (hW.mono hb0.size))) a.1 a.2.2 (by omega) (by omega)
  have qb := fun W (hW : Below U.heap.size U W) => ahead_p (hb.bt.below (hb0.trans (hW.mono hb0.size))) b.1 b.2.2 (by omega) (by omega)
  have qd := fun W (hW : Below U.heap.size U W) => bcmp_p (ha.bt.below (hb0.trans (hW.mono hb0.size))) (hb.bt.below (hb0.trans (hW.mono hb0.size)))
  obtain ⟨va, vc, rfl, _⟩ := ha.bt.form
  obtain ⟨va', vc', rfl, _⟩ := hb.bt.form
  generalize hca : (a.2.1.length : Int) - a.2.2 = A at *
  generalize hcb : (b.2.1.length : Int) - b.2.2 = B at *
  generalize hlx : lxS a.2.1 b.2.1 = X at *
  generalize szS a b = R at *
  have hkp : ∀ W, Below U.heap.size U W → (W.cell? ⟨w.heap.size, 0, none⟩ = some (.bool a.1) ∧ W.cell? ⟨w.heap.size, 1, none⟩ = some (.slice va a.2.1.length vc) ∧ W.cell? ⟨w.heap.size, 2, none⟩ = some (.int .i64 a.2.2)) ∧ (W.cell? ⟨w.heap.size + 1, 0, none⟩ = some (.bool b.1) ∧ W.cell? ⟨w.heap.size + 1, 1, none⟩ = some (.slice va' b.2.1.length vc') ∧ W.cell? ⟨w.heap.size + 1, 2, none⟩ = some (.int .i64 b.2.2)) := fun W hb => ⟨boxK x1 W hb, boxK x2 W hb⟩
  have HKP : Hid _ := hkp
  have HB : Hid (Below U.heap.size U U.drew) := Below.drewN' 1
  obtain ⟨⟨g00, g01, g02⟩, ⟨g10, g11, g12⟩⟩ := hkp U (Below.refl _ _)
  have HH : Hid _ := And.intro qa (And.intro qb (And.intro qd (And.intro hfe hb0)))
  clear qa qb qd hfe hb0 hkp x1 x2 ha hb la lb za zb hca hcb hlx
  go_enter Tryz.func55, Tryz.ntmps55
  go_upto_region 1 with fail
  clear hU
  go_region_held3 (fun W => W.cell? ⟨w.heap.size, 0, none⟩ = some (.bool a.1) ∧ W.cell? ⟨w.heap.size, 1, none⟩ = some (.slice va a.2.1.length vc) ∧ W.cell? ⟨w.heap.size, 2, none⟩ = some (.int .i64 a.2.2) ∧ W.cell? ⟨w.heap.size + 1, 0, none⟩ = some (.bool b.1) ∧ W.cell? ⟨w.heap.size + 1, 1, none⟩ = some (.slice va' b.2.1.length vc') ∧ W.cell? ⟨w.heap.size + 1, 2, none⟩ = some (.int .i64 b.2.2)) (first | exact ⟨g00, g01, g02, g10, g11, g12⟩ | go_keep) (first
    | (go_at_call 56; (with_reducible refine Calls.mono (HH.out.1 _ HB.out) ?_); rintro e w9 ⟨rfl, hb9⟩; have hbb := HB.out.trans (hb9.mono HB.out.size); clear HB g00 g01 g02 g10 g11 g12; obtain ⟨⟨g00, g01, g02⟩, ⟨g10, g11, g12⟩⟩ := HKP.out _ hbb; have HB : Hid _ := hbb; clear hbb hb9)
    | (go_at_call 56; (with_reducible refine Calls.mono (HH.out.2.1 _ HB.out) ?_); rintro e w9 ⟨rfl, hb9⟩; have hbb := HB.out.trans (hb9.mono HB.out.size); clear HB g00 g01 g02 g10 g11 g12; obtain ⟨⟨g00, g01, g02⟩, ⟨g10, g11, g12⟩⟩ := HKP.out _ hbb; have HB : Hid _ := hbb; clear hbb hb9)
    | (go_at_call 99; (with_reducible refine Calls.mono (cmpi_p _ _ _) ?_); rintro e w9 ⟨rfl, rfl⟩)
    | (go_at_call 100; (with_reducible refine Calls.mono (HH.out.2.2.1 _ HB.out) ?_); rintro e w9 ⟨rfl, rfl⟩)
    | (go_at_call 98; (with_reducible refine Calls.mono (or_at _ _ _) ?_); rintro e w10 ⟨rfl, rfl⟩; have hba := (Below.refl w9.heap.size w9).alloc (Nat.le_refl _) (.cells #[.int .i64 (ciS A B), .int .i64 X] 3); have hbb := HB.out.trans (hba.mono HB.out.size); have HB2 : Hid _ := hbb; clear hbb hba))
  all_goals
    rw [HH.out.2.2.2.1]
    go_wp2_with fail
    go_ret
    exact ⟨rfl, HH.out.2.2.2.2.trans (HB2.out.mono HH.out.2.2.2.2.size)⟩
set_option maxRecDepth 100000 in
set_option maxHeartbeats 3200000 in
theorem cmp_p {w : World} {v v' : Value} {a b : Nm} (ha : NmR w v a) (hb : NmR w v' b) : Calls Tryz.prog 30 #[nmV a.1 v a.2.2, nmV b.1 v' b.2.2] w fun e w' => e = .returned (.int .i64 (cmpS a b)) ∧ Below w.heap.size w w' := by
  obtain ⟨x1, x2, hb0⟩ := box2p w (.bool a.1) v (.int .i64 a.2.2) (.bool b.1) v' (.int .i64 b.2.2)
  generalize hU : ((w.alloc (.cells #[.bool a.1, v, .int .i64 a.2.2] 34)).alloc (.cells #[.bool b.1, v', .int .i64 b.2.2] 34)) = U at x1 x2 hb0
  have qa := fun W (hW : Below U.heap.size U W) => right_nm (ha.below (hb0.trans (hW.mono hb0.size)))
  have qb := fun W (hW : Below U.heap.size U W) => right_nm (hb.below (hb0.trans (hW.mono hb0.size)))
  have qf := fun W (hW : Below U.heap.size U W) => farther_p (ha.below (hb0.trans (hW.mono hb0.size))) (hb.below (hb0.trans (hW.mono hb0.size)))
  have qg := fun W (hW : Below U.heap.size U W) => farther_p (hb.below (hb0.trans (hW.mono hb0.size))) (ha.below (hb0.trans (hW.mono hb0.size)))
  have hsy : szS b a = -(szS a b) := by
    obtain ⟨e1, e2, e3, e4, e5, e6⟩ := ex_ok ha.cn hb.cn
    obtain ⟨f1, f2, f3, f4, f5, f6⟩ := ex_ok hb.cn ha.cn
    have k1 := lex_val (a := exA a b) (b := exB a b) (by rw [e1, e2]) e3 e4
    have k2 := lex_val (a := exA b a) (b := exB b a) (by rw [f1, f2]) f3 f4
    have g1 : dval (exA b a) = dval (exB a b) := by rw [f5, e6, hiS_comm]
    have g2 : dval (exB b a) = dval (exA a b) := by rw [f6, e5, hiS_comm]
    rw [g1, g2] at k2
    unfold szS
    rcases k1 with ⟨p1, p2⟩ | ⟨p1, p2⟩ | ⟨p1, p2⟩ <;> rcases k2 with ⟨q1, q2⟩ | ⟨q1, q2⟩ | ⟨q1, q2⟩
    · omega
    · rw [q2] at g1; omega
    · rw [p1, q1]; rfl
    · rw [p2] at q2; omega
    · rw [p1, q1]; rfl
    · rw [p2] at q2; omega
    · rw [p1, q1]
    · rw [q2] at g1; omega
    · omega
  have hcm : cmpS a b = if a.1 = true ∧ b.1 = true then szS b a else if a.1 = true then -1 else if b.1 = true then 1 else szS a b := by
    rw [hsy]
    unfold cmpS
    cases a.1 <;> cases b.1 <;> simp
  obtain ⟨va, vc, rfl, _⟩ := ha.bt.form
  obtain ⟨va', vc', rfl, _⟩ := hb.bt.form
  generalize szS a b = X at *
  generalize szS b a = Y at *
  generalize cmpS a b = R at *
  have hkp : ∀ W, Below U.heap.size U W → (W.cell? ⟨w.heap.size, 0, none⟩ = some (.bool a.1) ∧ W.cell? ⟨w.heap.size, 1, none⟩ = some (.slice va a.2.1.length vc) ∧ W.cell? ⟨w.heap.size, 2, none⟩ = some (.int .i64 a.2.2)) ∧ (W.cell? ⟨w.heap.size + 1, 0, none⟩ = some (.bool b.1) ∧ W.cell? ⟨w.heap.size + 1, 1, none⟩ = some (.slice va' b.2.1.length vc') ∧ W.cell? ⟨w.heap.size + 1, 2, none⟩ = some (.int .i64 b.2.2)) := fun W hb => ⟨boxK x1 W hb, boxK x2 W hb⟩
  have HB : Hid (Below U.heap.size U U) := Below.refl _ _
  obtain ⟨⟨g00, g01, g02⟩, ⟨g10, g11, g12⟩⟩ := hkp U (Below.refl _ _)
  obtain ⟨an, al, asc⟩ := a
  obtain ⟨bn, bl', bsc⟩ := b
  dsimp only at *
  have HKP : Hid _ := hkp
  have HH : Hid _ := And.intro qa (And.intro qb (And.intro qf (And.intro qg (And.intro hcm hb0))))
  clear qa qb qf qg hcm hb0 hkp x1 x2 ha hb hsy
  go_enter Tryz.func30, Tryz.ntmps30
  cases an <;> cases bn
  all_goals
    have hcm := HH.out.2.2.2.2.1
    simp only [Bool.false_eq_true, false_and, and_false, and_true, true_and, if_false, if_true, and_self] at hcm
    subst hcm
    go_wp2_with (first
      | (go_at_call 54; (with_reducible refine Calls.mono (HH.out.1 _ HB.out) ?_); rintro e w9 ⟨rfl, hb9⟩; have hbb := HB.out.trans (hb9.mono HB.out.size); clear HB g00 g01 g02 g10 g11 g12; obtain ⟨⟨g00, g01, g02⟩, ⟨g10, g11, g12⟩⟩ := HKP.out _ hbb; have HB : Hid _ := hbb; clear hbb hb9)
      | (go_at_call 54; (with_reducible refine Calls.mono (HH.out.2.1 _ HB.out) ?_); rintro e w9 ⟨rfl, hb9⟩; have hbb := HB.out.trans (hb9.mono HB.out.size); clear HB g00 g01 g02 g10 g11 g12; obtain ⟨⟨g00, g01, g02⟩, ⟨g10, g11, g12⟩⟩ := HKP.out _ hbb; have HB : Hid _ := hbb; clear hbb hb9)
      | (go_at_call 55; (with_reducible refine Calls.mono (HH.out.2.2.1 _ HB.out) ?_); rintro e w9 ⟨rfl, hb9⟩; have hbb := HB.out.trans (hb9.mono HB.out.size); clear HB g00 g01 g02 g10 g11 g12; obtain ⟨⟨g00, g01, g02⟩, ⟨g10, g11, g12⟩⟩ := HKP.out _ hbb; have HB : Hid _ := hbb; clear hbb hb9)
      | (go_at_call 55; (with_reducible refine Calls.mono (HH.out.2.2.2.1 _ HB.out) ?_); rintro e w9 ⟨rfl, hb9⟩; have hbb := HB.out.trans (hb9.mono HB.out.size); clear HB g00 g01 g02 g10 g11 g12; obtain ⟨⟨g00, g01, g02⟩, ⟨g10, g11, g12⟩⟩ := HKP.out _ hbb; have HB : Hid _ := hbb; clear hbb hb9))
    go_ret
    exact ⟨rfl, HH.out.2.2.2.2.2.trans (HB.out.mono HH.out.2.2.2.2.2.size)⟩
end Go.Proofs.YtgaegajcejpmdaaGreatDoor.Dc
