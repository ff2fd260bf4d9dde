/- The fields of a moment; the program's fieldsOf. -/
import Derived.Test.YtgaegajcejpmdaaGreatDoorHJ28
namespace Go.Proofs.YtgaegajcejpmdaaGreatDoor.Dt
open Go.RowKit
set_option linter.unusedVariables false

structure StM (M : Nat) (a : Mo) (W : World) : Prop where
  x : W.heap[M]? = some (.cells (moC a) 36 (0, 0))
  b : MoB a
theorem StM.sy (M : Nat) : CellSt (StM M) M 1 (fun a n => { a with y := n }) := by
  intro a W h
  obtain ⟨hx, ⟨y0, y1, m0, m1, d0, d1, s0, s1, n0, n1⟩⟩ := h
  refine ⟨_, _, _, hx, rfl, fun n W' q0 q1 hx' hf => ⟨hx', ⟨by dsimp only; omega, by dsimp only; omega, m0, m1, d0, d1, s0, s1, n0, n1⟩⟩⟩
theorem StM.sm (M : Nat) : CellSt (StM M) M 2 (fun a n => { a with m := n }) := by
  intro a W h
  obtain ⟨hx, ⟨y0, y1, m0, m1, d0, d1, s0, s1, n0, n1⟩⟩ := h
  refine ⟨_, _, _, hx, rfl, fun n W' q0 q1 hx' hf => ⟨hx', ⟨y0, y1, by dsimp only; omega, by dsimp only; omega, d0, d1, s0, s1, n0, n1⟩⟩⟩
theorem StM.sn (M : Nat) : CellSt (StM M) M 5 (fun a n => { a with n := n }) := by
  intro a W h
  obtain ⟨hx, ⟨y0, y1, m0, m1, d0, d1, s0, s1, n0, n1⟩⟩ := h
  refine ⟨_, _, _, hx, rfl, fun n W' q0 q1 hx' hf => ⟨hx', ⟨y0, y1, m0, m1, d0, d1, s0, s1, by dsimp only; omega, by dsimp only; omega⟩⟩⟩
theorem set_same {cs : Array Value} {i : Nat} {v : Value} (hv : cs[i]? = some v) : cs.setIfInBounds i v = cs := by
  obtain ⟨hlt, hh⟩ := Array.getElem?_eq_some_iff.1 hv
  apply Array.ext
  · simp
  · intro j h1 h2
    rw [Array.getElem_setIfInBounds]
    split
    · rename_i q; subst q; exact hh.symm
    · rfl
theorem en_day : ∀ args w, (callFunc 191 args).run Tryz.prog w = .ok (.enter 191 args) w := enters_of Tryz.func191 (by kernel_rfl) rfl
theorem en_clock : ∀ args w, (callFunc 192 args).run Tryz.prog w = .ok (.enter 192 args) w := enters_of Tryz.func192 (by kernel_rfl) rfl
theorem en_zone : ∀ args w, (callFunc 194 args).run Tryz.prog w = .ok (.enter 194 args) w := enters_of Tryz.func194 (by kernel_rfl) rfl
def gYr : Gd Mo := fun a l => if yrOk (yrK l) then some ({ a with y := yrV l }, (yrK l).drop (dk 9 (yrK l))) else none
def gMo : Gd Mo := fun a l => (inB 1 12 l).map fun x => ({ a with m := x.1 }, x.2)
def gDy : Gd Mo := fun a l => (inB 1 (lenL (lnY a.y) a.m) l).map fun x => ({ a with d := x.1 }, x.2)
def gCl : Gd Mo := fun a l => (ckG l).map fun x => ({ a with s := x.1 }, x.2)
def gFr : Gd Mo := fun a l => (frG l).map fun x => (match x.1 with | some n => { a with n := n } | none => a, x.2)
def gZ : Gd Mo := fun a l => (gZn a l).map fun x => (x, [])
theorem fc_day {U : World} {M b1 : Nat} (h1 : U.heap[b1]? = some (.cells #[.pointer (some ⟨M, 0, none⟩)] 143 (0, 0))) (n1 : M ≠ b1) : FC U (fun k => k = M) (StM M) (191, #[pt b1]) gDy := by
  refine ⟨en_day, fun W a s hW ha hs => ?_⟩
  have hk := dk_le 2 (bl s)
  have hvb := dvl_bd (l := bl s) (j := dk 2 (bl s)) hk.2.2 (by omega)
  refine Calls.mono (day_c s b1 M W a (hW.at h1 (fun q => n1 q.symm)) ha.x n1 ha.b hs) ?_
  rintro e w' ⟨rfl, hx, hf⟩
  obtain ⟨hx0, ⟨y0, y1, m0, m1, d0, d1, s0, s1, n0, n1'⟩⟩ := ha
  refine ⟨_, _, _, rfl, fro_in hW hf rfl, ⟨hx, ⟨y0, y1, m0, m1, by dsimp only; omega, by dsimp only; omega, s0, s1, n0, n1'⟩⟩, ?_, ?_⟩
  · rw [ByteArray.size_extract]; omega
  · unfold gDy
    rw [two_in]
    cases twOk 1 (lenL (lnY a.y) a.m) (bl s)
    · rfl
    · exact ⟨rfl, rfl, bl_suf s _⟩
theorem fc_clock {U : World} {M b1 : Nat} (h1 : U.heap[b1]? = some (.cells #[.pointer (some ⟨M, 4, none⟩)] 167 (0, 0))) (n1 : M ≠ b1) : FC U (fun k => k = M) (StM M) (192, #[pt b1]) gCl := by
  refine ⟨en_clock, fun W a s hW ha hs => ?_⟩
  refine Calls.mono (clock_c s b1 M 4 W (moC a) 36 _ (hW.at h1 (fun q => n1 q.symm)) ha.x rfl n1 hs) ?_
  rintro e w' ⟨t', n, rfl, hts, hx, hf, ⟨hn0, hn1⟩, hm⟩
  obtain ⟨hx0, ⟨y0, y1, m0, m1, d0, d1, s0, s1, n0, n1'⟩⟩ := ha
  refine ⟨t', _, { a with s := n }, rfl, fro_in hW hf rfl, ⟨hx, ⟨y0, y1, m0, m1, d0, d1, by dsimp only; omega, by dsimp only; omega, n0, n1'⟩⟩, hts, ?_⟩
  unfold gCl
  cases hg : ckG (bl s) with
  | none => rfl
  | some x =>
    obtain ⟨hb, hn⟩ := hm x hg
    exact ⟨rfl, by rw [hn], hb⟩
theorem fc_zone {U : World} {M b1 : Nat} (h1 : U.heap[b1]? = some (.cells #[.pointer (some ⟨M, 0, none⟩)] 143 (0, 0))) (n1 : M ≠ b1) : FC U (fun k => k = M) (StM M) (194, #[pt b1]) gZ := by
  refine ⟨en_zone, fun W a s hW ha hs => ?_⟩
  refine Calls.mono (zone_c s b1 M W a (hW.at h1 (fun q => n1 q.symm)) ha.x n1 hs) ?_
  rintro e w' ⟨a', b, rfl, hx, hf, ⟨h, z, rfl⟩, hm⟩
  obtain ⟨hx0, ⟨y0, y1, m0, m1, d0, d1, s0, s1, n0, n1'⟩⟩ := ha
  refine ⟨⟨#[]⟩, b, _, rfl, fro_in hW hf rfl, ⟨hx, ⟨y0, y1, m0, m1, d0, d1, s0, s1, n0, n1'⟩⟩, Nat.zero_le _, ?_⟩
  unfold gZ
  cases hg : gZn a (bl s) with
  | none => rw [hg] at hm; exact hm
  | some x =>
    rw [hg] at hm
    exact ⟨hm.1, hm.2, rfl⟩
/-- The boxes of a moment's fields. -/
structure Mks (M : Nat) (U : World) (N pd py p1 p2 p3 pa pc pf pz : Nat) : Prop where
  n : M < N
  ld : N ≤ pd
  ly : N ≤ py
  l1 : N ≤ p1
  l2 : N ≤ p2
  l3 : N ≤ p3
  la : N ≤ pa
  lc : N ≤ pc
  lf : N ≤ pf
  lz : N ≤ pz
  d : U.heap[pd]? = some (.cells #[.string ⟨#[45]⟩] 9 (0, 0))
  y : U.heap[py]? = some (.cells #[.pointer (some ⟨M, 1, none⟩)] 167 (0, 0))
  m1 : U.heap[p1]? = some (.cells #[.pointer (some ⟨M, 2, none⟩)] 167 (0, 0))
  m2 : U.heap[p2]? = some (.cells #[.int .i64 1] 3 (0, 0))
  m3 : U.heap[p3]? = some (.cells #[.int .i64 12] 3 (0, 0))
  a : U.heap[pa]? = some (.cells #[.pointer (some ⟨M, 0, none⟩)] 143 (0, 0))
  c : U.heap[pc]? = some (.cells #[.pointer (some ⟨M, 4, none⟩)] 167 (0, 0))
  f : U.heap[pf]? = some (.cells #[.pointer (some ⟨M, 5, none⟩)] 167 (0, 0))
  z : U.heap[pz]? = some (.cells #[.pointer (some ⟨M, 0, none⟩)] 143 (0, 0))
theorem Mks.below {M : Nat} {U U' : World} {N pd py p1 p2 p3 pa pc pf pz : Nat} (h : Mks M U N pd py p1 p2 p3 pa pc pf pz) (hb : Below U.heap.size U U') : Mks M U' N pd py p1 p2 p3 pa pc pf pz := by
  obtain ⟨n, ld, ly, l1, l2, l3, la, lc, lf, lz, d, y, m1, m2, m3, a, c, f, z⟩ := h
  exact ⟨n, ld, ly, l1, l2, l3, la, lc, lf, lz, (hb.block _ (lt_of d)).trans d, (hb.block _ (lt_of y)).trans y, (hb.block _ (lt_of m1)).trans m1, (hb.block _ (lt_of m2)).trans m2, (hb.block _ (lt_of m3)).trans m3, (hb.block _ (lt_of a)).trans a, (hb.block _ (lt_of c)).trans c, (hb.block _ (lt_of f)).trans f, (hb.block _ (lt_of z)).trans z⟩
theorem Mks.fd {M : Nat} {U : World} {N pd py p1 p2 p3 pa pc pf pz : Nat} (h : Mks M U N pd py p1 p2 p3 pa pc pf pz) : FC U (fun k => k = M) (StM M) (187, #[pt pd]) (gMk 45) := fc_mark 45 pd h.d (by have := h.n; have := h.ld; omega)
theorem Mks.fy {M : Nat} {U : World} {N pd py p1 p2 p3 pa pc pf pz : Nat} (h : Mks M U N pd py p1 p2 p3 pa pc pf pz) : FC U (fun k => k = M) (StM M) (188, #[pt py]) gYr := fc_year (O := fun k => k = M) py M 1 _ h.y (by have := h.n; have := h.ly; omega) rfl (StM.sy M)
theorem Mks.fm {M : Nat} {U : World} {N pd py p1 p2 p3 pa pc pf pz : Nat} (h : Mks M U N pd py p1 p2 p3 pa pc pf pz) : FC U (fun k => k = M) (StM M) (190, #[pt p1, pt p2, pt p3]) gMo := fc_two (O := fun k => k = M) p1 p2 p3 M 2 1 12 _ h.m1 h.m2 h.m3 (by have := h.n; have := h.l1; omega) (by have := h.n; have := h.l2; omega) (by have := h.n; have := h.l3; omega) rfl (StM.sm M)
theorem Mks.fa {M : Nat} {U : World} {N pd py p1 p2 p3 pa pc pf pz : Nat} (h : Mks M U N pd py p1 p2 p3 pa pc pf pz) : FC U (fun k => k = M) (StM M) (191, #[pt pa]) gDy := fc_day h.a (by have := h.n; have := h.la; omega)
theorem Mks.fc {M : Nat} {U : World} {N pd py p1 p2 p3 pa pc pf pz : Nat} (h : Mks M U N pd py p1 p2 p3 pa pc pf pz) : FC U (fun k => k = M) (StM M) (192, #[pt pc]) gCl := fc_clock h.c (by have := h.n; have := h.lc; omega)
theorem Mks.ff {M : Nat} {U : World} {N pd py p1 p2 p3 pa pc pf pz : Nat} (h : Mks M U N pd py p1 p2 p3 pa pc pf pz) : FC U (fun k => k = M) (StM M) (193, #[pt pf]) gFr := fc_frac (O := fun k => k = M) pf M 5 _ h.f (by have := h.n; have := h.lf; omega) rfl (StM.sn M) (fun a W ha W' cs t v hc hv hx hf => by
  rw [set_same hv] at hx
  have e := hc.symm.trans ha.x
  exact ⟨by rw [hx, ← hc]; exact ha.x, ha.b⟩)
theorem Mks.fz {M : Nat} {U : World} {N pd py p1 p2 p3 pa pc pf pz : Nat} (h : Mks M U N pd py p1 p2 p3 pa pc pf pz) : FC U (fun k => k = M) (StM M) (194, #[pt pz]) gZ := fc_zone h.z (by have := h.n; have := h.lz; omega)
/-- The fields of each kind. -/
def gK (k : Int) : List (Gd Mo) :=
  if k = 1 then [gYr, gMk 45, gMo, gMk 45, gDy, gMk 84, gCl, gFr, gZ] else if k = 2 then [gYr, gMk 45, gMo, gMk 45, gDy, gZ] else if k = 3 then [gCl, gFr, gZ] else if k = 4 then [gYr, gMk 45, gMo, gZ]
  else if k = 5 then [gYr, gZ] else if k = 6 then [gMk 45, gMk 45, gMo, gMk 45, gDy, gZ] else if k = 7 then [gMk 45, gMk 45, gMk 45, gDy, gZ] else if k = 8 then [gMk 45, gMk 45, gMo, gZ] else []
/-- What fieldsOf gives. -/
def FoP (M : Nat) (k : Int) (w : World) (e : Ending) (w' : World) : Prop :=
  Below w.heap.size w w' ∧ ((1 ≤ k ∧ k ≤ 8 ∧ ∃ (B : Nat) (fs : List Fn), e = .returned (.slice (some ⟨B, 0, none⟩) fs.length fs.length) ∧ fs.length ≤ 100 ∧ M ≠ B ∧ w'.heap[B]? = some (.cells (fs.map fnV).toArray 138 (0, 0)) ∧ FCs w' (fun k => k = M) (StM M) fs (gK k)) ∨ (¬ (1 ≤ k ∧ k ≤ 8) ∧ e = .returned (.slice none 0 0)))
set_option maxHeartbeats 1000000 in
theorem fieldsOf_p (M : Nat) (a : Mo) (w : World) (hM : w.heap[M]? = some (.cells (moC a) 36 (0, 0))) : Calls Tryz.prog 115 #[.pointer (some ⟨M, 0, none⟩)] w (FoP M a.k w) := by
  have hml := lt_of hM
  have HM : Hid _ := And.intro hM hml
  clear hM hml
  go_enter Tryz.func115, Tryz.ntmps115
  go_wp2_with fail
  have HB : Hid (Below w.heap.size w w.drew) := below_drewN 1
  go_region_held3 (fun _ => True) (trivial) (first
    | (go_at_call 159; (with_reducible refine Calls.mono (mark_m _ _) ?_); rintro e w1 ⟨pd, rfl, h1⟩; have HB1 : Hid _ := And.intro h1 (HB.out.trans (h1.bl.mono HB.out.size)); clear h1)
    | (go_at_call 160; (with_reducible refine Calls.mono (mk_year _ _) ?_); rintro e w2 ⟨py, rfl, l2, x2, b2⟩; have HB2 : Hid _ := And.intro (MkB.mk l2 x2 b2) (HB1.out.2.trans (b2.mono HB1.out.2.size)); clear l2 x2 b2)
    | (go_at_call 161; (with_reducible refine Calls.mono (two_m _ _ _ _) ?_); rintro e w3 ⟨p1, p2, p3, rfl, h3⟩; have HB3 : Hid _ := And.intro h3 (HB2.out.2.trans (h3.bl.mono HB2.out.2.size)); clear h3)
    | (go_at_call 162; (with_reducible refine Calls.mono (mk_day _ _) ?_); rintro e w4 ⟨pa, rfl, l2, x2, b2⟩; have HB4 : Hid _ := And.intro (MkB.mk l2 x2 b2) (HB3.out.2.trans (b2.mono HB3.out.2.size)); clear l2 x2 b2)
    | fail)
  go_wp2_with fail
  have HBw : Hid (Below w4.heap.size w4 w4.drew) := below_drewN 1
  go_region_held3 (fun _ => True) (trivial) (first
    | (go_at_call 163; (with_reducible refine Calls.mono (mk_clock _ _) ?_); rintro e w5 ⟨pc, rfl, l2, x2, b2⟩; have HB5 : Hid _ := And.intro (MkB.mk l2 x2 b2) ((bdrewN HB4.out.2 1).trans (b2.mono HB4.out.2.size)); clear l2 x2 b2)
    | (go_at_call 164; (with_reducible refine Calls.mono (mk_frac _ _) ?_); rintro e w6 ⟨pf, rfl, l2, x2, b2⟩; have HB6 : Hid _ := And.intro (MkB.mk l2 x2 b2) (HB5.out.2.trans (b2.mono HB5.out.2.size)); clear l2 x2 b2)
    | (go_at_call 165; (with_reducible refine Calls.mono (mk_zone _ _) ?_); rintro e w7 ⟨pz, rfl, l2, x2, b2⟩; have HB7 : Hid _ := And.intro (MkB.mk l2 x2 b2) (HB6.out.2.trans (b2.mono HB6.out.2.size)); clear l2 x2 b2)
    | fail)
  have u6 := HB7.out.1.bl
  have u5 := bl_step HB6.out.1.bl u6
  have u4d := bl_step HB5.out.1.bl u5
  have u4 : Below w4.heap.size w4 w7 := (below_drewN 1).trans u4d
  have u3 := bl_step HB4.out.1.bl u4
  have u2 := bl_step HB3.out.1.bl u3
  have u1 := bl_step HB2.out.1.bl u2
  have hmk : Mks M w7 w.heap.size pd py p1 p2 p3 pa pc pf pz :=
    ⟨HM.out.2, HB1.out.1.l, Nat.le_trans HB1.out.2.size HB2.out.1.l, Nat.le_trans HB2.out.2.size HB3.out.1.l1, Nat.le_trans HB2.out.2.size HB3.out.1.l2, Nat.le_trans HB2.out.2.size HB3.out.1.l3, Nat.le_trans HB3.out.2.size HB4.out.1.l, Nat.le_trans HB4.out.2.size HB5.out.1.l, Nat.le_trans HB5.out.2.size HB6.out.1.l, Nat.le_trans HB6.out.2.size HB7.out.1.l,
      HB1.out.1.at u1, HB2.out.1.at u2, (u3.block _ (lt_of HB3.out.1.x1)).trans HB3.out.1.x1, (u3.block _ (lt_of HB3.out.1.x2)).trans HB3.out.1.x2, (u3.block _ (lt_of HB3.out.1.x3)).trans HB3.out.1.x3, HB4.out.1.at u4, HB5.out.1.at u5, HB6.out.1.at u6, HB7.out.1.x⟩
  have xM : w7.heap[M]? = some (.cells (moC a) 36 (0, 0)) := (HB7.out.2.block _ HM.out.2).trans HM.out.1
  obtain ⟨⟨k0, _⟩, _⟩ := blk8 xM
  have HK : Hid _ := And.intro hmk HB7.out.2
  have hMlt := HM.out.2
  have hsz7 := HB7.out.2.size
  have hMB : M ≠ w7.heap.size := by omega
  clear u6 u5 u4d u4 u3 u2 u1 hmk xM HB HB1 HB2 HB3 HB4 HB5 HB6 HB7 HBw HM
  have fin : ∀ (fs : List Fn) (V : World), Below w7.heap.size w7 V → M ≠ V.heap.size → (1 ≤ a.k ∧ a.k ≤ 8) → fs.length ≤ 100 → (∀ U, Below V.heap.size V U → FCs U (fun k => k = M) (StM M) fs (gK a.k)) → FoP M a.k w (.returned (.slice (some ⟨V.heap.size, 0, none⟩) fs.length fs.length)) (V.alloc (.cells (fs.map fnV).toArray 138)) := by
    intro fs V hV hMV hk hl hfs
    have hb : Below V.heap.size V (V.alloc (.cells (fs.map fnV).toArray 138)) := (Below.refl _ _).alloc (Nat.le_refl _) _
    refine ⟨(HK.out.2.trans (hV.mono HK.out.2.size)).trans (hb.mono (HK.out.2.trans (hV.mono HK.out.2.size)).size), .inl ⟨hk.1, hk.2, V.heap.size, fs, rfl, hl, hMV, nw_heap _ _, hfs _ hb⟩⟩
  have HF : Hid _ := And.intro fin trivial
  clear fin
  obtain ⟨k, hk⟩ : ∃ k, a.k = k := ⟨_, rfl⟩
  rw [hk] at k0 HF
  have HKK : Hid _ := hk
  clear hk
  by_cases e1 : k = 1
  · subst e1
    go_wp2_with (first | (go_at_call 159; (with_reducible refine Calls.mono (mark_m _ _) ?_); rintro e w8 ⟨pT, rfl, h8⟩; have HT : Hid _ := h8; clear h8))
    go_ret
    rw [HKK.out]
    exact HF.out.1 [(188, #[pt py]), (187, #[pt pd]), (190, #[pt p1, pt p2, pt p3]), (187, #[pt pd]), (191, #[pt pa]), (187, #[pt pT]), (192, #[pt pc]), (193, #[pt pf]), (194, #[pt pz])] w8 HT.out.bl (by have := HT.out.bl.size; omega) (by omega) (by simp) (fun U hU => by
      have hq := bl_step HT.out.bl hU
      exact (.cons (HK.out.1.below hq).fy (.cons (HK.out.1.below hq).fd (.cons (HK.out.1.below hq).fm (.cons (HK.out.1.below hq).fd (.cons (HK.out.1.below hq).fa (.cons (fc_mark 84 pT ((hU.block _ (lt_of HT.out.x)).trans HT.out.x) (by have := HT.out.l; omega)) (.cons (HK.out.1.below hq).fc (.cons (HK.out.1.below hq).ff (.cons (HK.out.1.below hq).fz .nil))))))))))
  by_cases e2 : k = 2
  · subst e2
    go_wp2_with fail
    go_ret
    rw [HKK.out]
    exact HF.out.1 [(188, #[pt py]), (187, #[pt pd]), (190, #[pt p1, pt p2, pt p3]), (187, #[pt pd]), (191, #[pt pa]), (194, #[pt pz])] w7 (Below.refl _ _) hMB (by omega) (by simp) (fun U hq => (.cons (HK.out.1.below hq).fy (.cons (HK.out.1.below hq).fd (.cons (HK.out.1.below hq).fm (.cons (HK.out.1.below hq).fd (.cons (HK.out.1.below hq).fa (.cons (HK.out.1.below hq).fz .nil)))))))
  by_cases e3 : k = 3
  · subst e3
    go_wp2_with fail
    go_ret
    rw [HKK.out]
    exact HF.out.1 [(192, #[pt pc]), (193, #[pt pf]), (194, #[pt pz])] w7 (Below.refl _ _) hMB (by omega) (by simp) (fun U hq => (.cons (HK.out.1.below hq).fc (.cons (HK.out.1.below hq).ff (.cons (HK.out.1.below hq).fz .nil))))
  by_cases e4 : k = 4
  · subst e4
    go_wp2_with fail
    go_ret
    rw [HKK.out]
    exact HF.out.1 [(188, #[pt py]), (187, #[pt pd]), (190, #[pt p1, pt p2, pt p3]), (194, #[pt pz])] w7 (Below.refl _ _) hMB (by omega) (by simp) (fun U hq => (.cons (HK.out.1.below hq).fy (.cons (HK.out.1.below hq).fd (.cons (HK.out.1.below hq).fm (.cons (HK.out.1.below hq).fz .nil)))))
  by_cases e5 : k = 5
  · subst e5
    go_wp2_with fail
    go_ret
    rw [HKK.out]
    exact HF.out.1 [(188, #[pt py]), (194, #[pt pz])] w7 (Below.refl _ _) hMB (by omega) (by simp) (fun U hq => (.cons (HK.out.1.below hq).fy (.cons (HK.out.1.below hq).fz .nil)))
  by_cases e6 : k = 6
  · subst e6
    go_wp2_with fail
    go_ret
    rw [HKK.out]
    exact HF.out.1 [(187, #[pt pd]), (187, #[pt pd]), (190, #[pt p1, pt p2, pt p3]), (187, #[pt pd]), (191, #[pt pa]), (194, #[pt pz])] w7 (Below.refl _ _) hMB (by omega) (by simp) (fun U hq => (.cons (HK.out.1.below hq).fd (.cons (HK.out.1.below hq).fd (.cons (HK.out.1.below hq).fm (.cons (HK.out.1.below hq).fd (.cons (HK.out.1.below hq).fa (.cons (HK.out.1.below hq).fz .nil)))))))
  by_cases e7 : k = 7
  · subst e7
    go_wp2_with fail
    go_ret
    rw [HKK.out]
    exact HF.out.1 [(187, #[pt pd]), (187, #[pt pd]), (187, #[pt pd]), (191, #[pt pa]), (194, #[pt pz])] w7 (Below.refl _ _) hMB (by omega) (by simp) (fun U hq => (.cons (HK.out.1.below hq).fd (.cons (HK.out.1.below hq).fd (.cons (HK.out.1.below hq).fd (.cons (HK.out.1.below hq).fa (.cons (HK.out.1.below hq).fz .nil))))))
  by_cases e8 : k = 8
  · subst e8
    go_wp2_with fail
    go_ret
    rw [HKK.out]
    exact HF.out.1 [(187, #[pt pd]), (187, #[pt pd]), (190, #[pt p1, pt p2, pt p3]), (194, #[pt pz])] w7 (Below.refl _ _) hMB (by omega) (by simp) (fun U hq => (.cons (HK.out.1.below hq).fd (.cons (HK.out.1.below hq).fd (.cons (HK.out.1.below hq).fm (.cons (HK.out.1.below hq).fz .nil)))))
  go_wp2_with fail
  go_ret
  rw [HKK.out]
  exact ⟨HK.out.2, .inr ⟨by omega, rfl⟩⟩
end Go.Proofs.YtgaegajcejpmdaaGreatDoor.Dt
