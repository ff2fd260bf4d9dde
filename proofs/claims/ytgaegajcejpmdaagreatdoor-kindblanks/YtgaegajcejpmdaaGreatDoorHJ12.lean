/- Joined: HDcG1, HK5, HK16, HK6. -/
import Derived.Test.YtgaegajcejpmdaaGreatDoorHJ7
import Derived.Test.YtgaegajcejpmdaaGreatDoorHLay
import Derived.Test.YtgaegajcejpmdaaGreatDoorRows
import Derived.Test.YtgaegajcejpmdaaGreatDoorHJ11
import Derived.Lib.ItoaMem
import Derived.Lib.AppendIntMem
import Derived.Test.YtgaegajcejpmdaaGreatDoorHJ5
import Derived.LaidLaws
import Derived.Lib.LaidTab
import Derived.LaidMore
import Derived.Stop.LaidErr
import Derived.Stop.Joined
import Derived.ProofKit
import Derived.SevenTiedAt
import Derived.Test.YtgaegajcejpmdaaGreatDoorHDcB0
import Derived.Lib.ParseIntB
namespace Go.Proofs.YtgaegajcejpmdaaGreatDoor.Dc
open Go.RowKit
set_option linter.unusedVariables false
set_option linter.unusedSimpArgs false

/-- The table of tens, as the row names it. -/
def tabN : String := (Rows.kindTablesRow.laid.map (·.1)).getD 2 (Rows.kindTablesRow.func)
/-- The table stands. -/
def Tab (w : World) : Prop := Lib.TabIs Tryz.prog w tabN .u64 Lib.pow10Tab
theorem Tab.below {w w' : World} (h : Tab w) (hb : Below w.heap.size w w') : Tab w' := (Lib.tabBelow_of_tabIs h) w' hb
theorem grow_below (w : World) (k : Nat) (os : Array Obj) : Below w.heap.size w (Sort.grow (w.drewN k) os) := by
  refine ⟨rfl, rfl, rfl, by simp [Sort.grow], fun b hb => ?_⟩
  simp only [Sort.grow]
  rw [Array.getElem?_append_left (by simpa using hb)]
  rfl
theorem itoa_p (n : Int) (h0 : -9223372036854775808 ≤ n) (h1 : n ≤ 9223372036854775807) (w : World) (ht : Tab w) : Calls Tryz.prog 85 #[.int .i64 n] w fun e w' => e = .returned (.string ⟨(Lib.itoa n).toArray⟩) ∧ Below w.heap.size w w' := by
  refine Calls.mono (Any.strconv_Itoa Tryz.laysM171 n h0 h1 w ht) ?_
  rintro e w' ⟨rfl, k, os, rfl⟩
  exact ⟨rfl, grow_below w k os⟩
theorem bl_itoa (n : Int) : bl ⟨(Lib.itoa n).toArray⟩ = (Lib.itoa n).map fun c => (c.toNat : Int) := by unfold bl; simp
theorem in_len (n : Int) (h0 : -9223372036854775808 ≤ n) (h1 : n ≤ 9223372036854775807) : (inS n).2.1.length ≤ 4096 ∧ CN (inS n) := by
  have := par_ok (par_itoa n h0 h1)
  exact ⟨this.2.2.1, this.1⟩
/-- A row of bytes is no box of a number. -/
theorem BtR.apart {w : World} {v : Value} {l : List Int} {X : Nat} {b : Bool} {p : Option Addr} {q r : Nat} {k : Int} {t : TypeId} (h : BtR w v l) (hX : w.heap[X]? = some (.cells #[.bool b, .slice p q r, .int .i64 k] t (0, 0))) : ∀ j, v.ownBlock = some j → l ≠ [] → j ≠ X := by
  obtain ⟨a, cap, rfl, h1, h2, h3, h4⟩ := h
  intro j hj hn e
  rcases h4 with h4 | ⟨g, o, rfl, h5, h6⟩
  · exact hn h4
  · simp [Value.ownBlock] at hj
    have hg : g = X := by omega
    subst hg
    have hp : 0 < l.length := List.length_pos_iff.2 hn
    have := h6 0 hp
    rw [Nat.add_zero] at this
    simp only [World.cell?, hX] at this
    match o with
    | 0 => simp at this
    | 1 => simp at this
    | 2 => simp at this
    | o + 3 => simp at this
set_option maxRecDepth 100000 in
set_option maxHeartbeats 1600000 in
theorem int_p (n : Int) (h0 : -9223372036854775808 ≤ n) (h1 : n ≤ 9223372036854775807) (w : World) (ht : Tab w) : Calls Tryz.prog 109 #[.int .i64 n] w fun e w' => ∃ a c, e = .returned (nmV (inS n).1 (.slice a (inS n).2.1.length c) (inS n).2.2) ∧ NmR w' (.slice a (inS n).2.1.length c) (inS n) ∧ Below w.heap.size w w' := by
  have hb0 : Below w.heap.size w (w.alloc zP) := (Below.refl _ _).alloc (Nat.le_refl _) _
  have hR0 := nw_heap w zP
  have hit := itoa_p n h0 h1 _ (ht.below hb0)
  have hpa := par_itoa n h0 h1
  rw [← bl_itoa] at hpa
  have hsz : (⟨(Lib.itoa n).toArray⟩ : ByteArray).size ≤ 4096 := by
    have := (par_ok hpa).2.2.2
    rwa [bl_len] at this
  have hcn := in_len n h0 h1
  generalize (⟨(Lib.itoa n).toArray⟩ : ByteArray) = s at *
  generalize inS n = N at *
  have HH : Hid _ := And.intro hb0 (And.intro hR0 (And.intro hit (And.intro hpa hcn)))
  clear hb0 hR0 hit hpa ht hcn
  obtain ⟨n1, n2, n3⟩ := N
  go_enter Tryz.func109, Tryz.ntmps109
  go_wp2_with fail
  refine Calls.mono HH.out.2.2.1 ?_
  rintro e w1 ⟨rfl, hb1⟩
  have hbw1 := HH.out.1.trans (hb1.mono HH.out.1.size)
  have hz1 := (hb1.block _ (lt_of HH.out.2.1)).trans HH.out.2.1
  have H1 : Hid _ := And.intro hbw1 hz1
  clear hb1 hbw1 hz1
  go_wp2_with fail
  refine Calls.mono (parse_p s _ (by unfold maxLen; omega)) ?_
  rintro e w2 hp
  obtain ⟨hb2, h2⟩ := hp
  rw [HH.out.2.2.2.1] at h2
  obtain ⟨rv, rfl, hbt⟩ := h2
  dsimp only at hbt ⊢
  obtain ⟨rb, rd, rfl, hrd1, hrd2⟩ := hbt.form
  have hne : n2 ≠ [] := fun e => by have := HH.out.2.2.2.2.2.1.len; rw [e] at this; simp at this
  have hz2 := (hb2.block _ (lt_of H1.out.2)).trans H1.out.2
  have hbw2 := H1.out.1.trans (hb2.mono H1.out.1.size)
  have hlt2 := lt_of hz2
  have hne2 : w.heap.size ≠ w2.heap.size := by omega
  have hbA : Below w2.heap.size w2 (w2.alloc (.cells #[.bool n1, .slice rb n2.length rd, .int .i64 n3] 34)) := (Below.refl _ _).alloc (Nat.le_refl _) _
  obtain ⟨r0, r1, r2⟩ := bl3 hz2
  obtain ⟨rf0, rf1, rf2⟩ := bl3f hz2
  have hzA := (hbA.block _ (lt_of hz2)).trans hz2
  have H2 : Hid _ := And.intro hbt (And.intro hz2 (And.intro hbw2 (And.intro hbA (And.intro hzA hne))))
  clear hbt hz2 hbw2 hbA hzA hne hb2 H1
  go_wp2_with fail
  obtain ⟨q1, q2, q3, q4⟩ := set3 H2.out.2.2.1 (Nat.le_refl _) H2.out.2.1 (.bool n1) (.slice rb n2.length rd) (.int .i64 n3)
  have hbt9 := H2.out.1.kept (Nat.le_of_eq q4.symm) q3 (H2.out.1.apart H2.out.2.1)
  generalize (((w2.setCell ⟨w.heap.size, 0, none⟩ (.bool n1)).setCell ⟨w.heap.size, 1, none⟩ (.slice rb n2.length rd)).setCell ⟨w.heap.size, 2, none⟩ (.int .i64 n3)) = W9 at *
  have hbX : Below W9.heap.size W9 (W9.alloc (.cells #[.bool n1, .slice rb n2.length rd, .int .i64 n3] 34)) := (Below.refl _ _).alloc (Nat.le_refl _) _
  obtain ⟨y0, y1, y2⟩ := bl3 ((hbX.block _ (lt_of q1)).trans q1)
  have hbt10 := hbt9.below hbX
  have hb10 := q2.trans (hbX.mono q2.size)
  generalize (W9.alloc (.cells #[.bool n1, .slice rb n2.length rd, .int .i64 n3] 34)) = W10 at *
  exact bodyPost_ret (v := nmV n1 (.slice rb n2.length rd) n3) (by simp [results, Tryz.results109, go_sem, y0, y1, y2]) rfl ⟨rb, rd, rfl, ⟨hbt10, HH.out.2.2.2.2.2, HH.out.2.2.2.2.1⟩, hb10⟩
end Go.Proofs.YtgaegajcejpmdaaGreatDoor.Dc
namespace Go.Proofs.YtgaegajcejpmdaaGreatDoor
open Go.RowKit
set_option linter.unusedVariables false

theorem var_below {P : Program} {w w' : World} {n : String} {cs : Array Value} (h : w.var? P n = some cs) (hb : Below w.heap.size w w') : w'.var? P n = some cs := by
  unfold World.var? at h ⊢
  cases hg : P.globalNamed n with
  | none => simp [hg] at h
  | some g =>
    simp only [hg, Option.bind_some] at h ⊢
    have hlt : g < w.heap.size := by
      rcases Nat.lt_or_ge g w.heap.size with h' | h'
      · exact h'
      · simp [Array.getElem?_eq_none h'] at h
    rw [hb.block g hlt]
    exact h
structure Lw (w : World) : Prop where
  tab : Dc.Tab w
  nm : NmG w
  er : ∃ tp p, w.var? Tryz.prog "strconv.ErrRange" = some #[.iface tp p]
  es : ∃ tp p, w.var? Tryz.prog "strconv.ErrSyntax" = some #[.iface tp p]
theorem Lw.below {w w' : World} (h : Lw w) (hb : Below w.heap.size w w') : Lw w' := by
  obtain ⟨tp, p, e1⟩ := h.er
  obtain ⟨tq, q, e2⟩ := h.es
  exact ⟨h.tab.below hb, h.nm.below hb, ⟨tp, p, var_below e1 hb⟩, ⟨tq, q, var_below e2 hb⟩⟩
end Go.Proofs.YtgaegajcejpmdaaGreatDoor
namespace Go.Proofs.YtgaegajcejpmdaaGreatDoor
open Go.RowKit
set_option linter.unusedVariables false

def strData {H : Type} (ss : List ByteArray) : DataW H := .agg (ss.map fun s => .lit (.string s.data.toList))
theorem ba_ext {a b : ByteArray} (h : a.data.toList = b.data.toList) : a = b := by
  cases a; cases b
  congr 1
  exact Array.toList_inj.1 h
theorem cells_of_strs {H : Type} {enc : TypeId × Value → H} {P : Program} {w : World} {base : Nat} {sp : Nat → Bool} {held : Bool} {fuel : Nat} {t e : TypeId} {n : Nat} {cs : List Value} {zs : List ByteArray} {p : List MemPlace}
    (ht : P.underlying t = some (.array n e)) (he : P.underlying e = some .string) (hce : P.cellsOf e = 1) (hct : P.cellsOf t = n)
    (h : DataW.trod enc P w base sp held fuel t cs = some (strData zs, p)) : cs = zs.map Value.string := by
  cases fuel with
  | zero => simp [DataW.trod] at h
  | succ fuel =>
    simp only [DataW.trod, ht, hce, hct, Nat.mul_one] at h
    split at h
    · rename_i hl
      obtain ⟨xs, hm, hx⟩ := Option.map_eq_some_iff.1 h
      have hxs : xs.map (·.1) = zs.map fun s => (DataW.lit (.string s.data.toList) : DataW H) := by
        have := congrArg Prod.fst hx
        simpa [strData] using this
      have hxl : xs.length = n := by simpa using Lib.mapM_length hm
      have hzl : zs.length = n := by
        have := congrArg List.length hxs
        simp at this
        omega
      apply List.ext_getElem?
      intro i
      by_cases hi : i < n
      · obtain ⟨b, hb, hf⟩ := Lib.mapM_at hm i i (by simp [hi])
        obtain ⟨z, hc, rfl, _⟩ := DataW.trod_string he hf
        have h1 : cs[i]? = some (.string z) := by
          have := congrArg (·[0]?) hc
          simpa [List.getElem?_take, List.getElem?_drop] using this
        have h2 : (xs.map (·.1))[i]? = some (DataW.lit (.string z.data.toList) : DataW H) := by simp [hb]
        rw [hxs] at h2
        simp only [List.getElem?_map, Option.map_eq_some_iff, DataW.lit.injEq, Lit.string.injEq] at h2
        obtain ⟨z', hz', hq⟩ := h2
        have : z' = z := ba_ext hq
        subst this
        simp [h1, hz']
      · rw [List.getElem?_eq_none (by omega), List.getElem?_eq_none (by simp; omega)]
    · cases h
theorem same_pow : (Rows.laid_internal_strconv_uint64pow10 : DataW Unit) = Lib.tabData .u64 Lib.pow10Tab := by rfl
theorem same_nm : (Rows.laid_rubric_kind_names : DataW Unit) = strData nmL := by rfl
theorem row_es : ∀ u, Tryz.prog.typeName? 3 u = some "*errors.errorString" → u = 204 := typeName_ptr_named (nm := "errors.errorString") (by kernel_rfl) (by kernel_rfl) (by decide)
theorem lw_of {W : World} (h0 : laidMetH Tryz.prog Rows.kindTablesRow.laid W) : Lw W := by
  rw [MakeChecks.laidMetH_plain _ _ _ (by kernel_rfl)] at h0
  have h2 := laidMet.tail (laidMet.tail h0)
  have h3 := laidMet.tail h2
  have h4 := laidMet.tail h3
  have h5 := laidMet.tail h4
  obtain ⟨a3, s3, hv3, _⟩ := laid_sentinel (g := 3) (tp := 204) (te := 206) (ts := 9) h3 (by kernel_rfl) (by kernel_rfl) Tryz.underlying132 row_es Tryz.underlying204 Tryz.underlying206 rfl rfl Tryz.underlying9 (by kernel_rfl) (by kernel_rfl)
  obtain ⟨a4, s4, hv4, _⟩ := laid_sentinel (g := 2) (tp := 204) (te := 206) (ts := 9) h4 (by kernel_rfl) (by kernel_rfl) Tryz.underlying132 row_es Tryz.underlying204 Tryz.underlying206 rfl rfl Tryz.underlying9 (by kernel_rfl) (by kernel_rfl)
  refine ⟨?_, ?_, ⟨_, _, hv3⟩, ⟨_, _, hv4⟩⟩
  · obtain ⟨ps, ⟨g, t, cs, fuel, p, q, hg, ht, hv, hd, _, _⟩, _, _⟩ := h2
    obtain rfl := Option.some.inj ((show Tryz.prog.globalNamed Dc.tabN = some 4 by kernel_rfl).symm.trans hg)
    obtain rfl := Option.some.inj ((show (Tryz.prog.globals[4]?).map (·.type) = some 198 by kernel_rfl).symm.trans ht)
    rw [same_pow] at hd
    have e := Lib.cells_of_tab (n := 20) (e := 86) (show Tryz.prog.underlying 198 = some (.array 20 86) by kernel_rfl) (show Tryz.prog.underlying 86 = some (.int .u64) by kernel_rfl) (by kernel_rfl) (by kernel_rfl) hd
    have hv' : W.var? Tryz.prog Dc.tabN = some cs := hv
    unfold Dc.Tab Lib.TabIs
    rw [hv', ← e]
  · obtain ⟨ps, ⟨g, t, cs, fuel, p, q, hg, ht, hv, hd, _, _⟩, _, _⟩ := h5
    have hg' := hg
    obtain rfl := Option.some.inj ((show Tryz.prog.globalNamed _ = some 0 by kernel_rfl).symm.trans hg)
    obtain rfl := Option.some.inj ((show (Tryz.prog.globals[0]?).map (·.type) = some 65 by kernel_rfl).symm.trans ht)
    rw [same_nm] at hd
    have e := cells_of_strs (n := 33) (e := 9) (show Tryz.prog.underlying 65 = some (.array 33 9) by kernel_rfl) (show Tryz.prog.underlying 9 = some .string by kernel_rfl) (by kernel_rfl) (by kernel_rfl) hd
    unfold World.var? at hv
    simp only [hg', Option.bind_some] at hv
    cases hb : W.heap[0]? with
    | none => rw [hb] at hv; cases hv
    | some o =>
      rw [hb] at hv
      cases o with
      | cells c t f =>
        have : c = cs := Option.some.inj hv
        subst this
        refine ⟨t, f, ?_⟩
        rw [hb]
        congr 2
        apply Array.toList_inj.1
        rw [e]
      | _ => cases hv
end Go.Proofs.YtgaegajcejpmdaaGreatDoor
namespace Go.Proofs.YtgaegajcejpmdaaGreatDoor
set_option linter.unusedVariables false

def wiB (k v : Int) : Bool :=
  if k = 11 then true else if k = 12 then decide (v ≤ 0) else if k = 13 then decide (v < 0) else if k = 14 then decide (0 ≤ v) else if k = 15 then decide (0 < v)
  else if k = 16 then decide (-9223372036854775808 ≤ v ∧ v ≤ 9223372036854775807) else if k = 17 then decide (-2147483648 ≤ v ∧ v ≤ 2147483647)
  else if k = 18 then decide (-32768 ≤ v ∧ v ≤ 32767) else if k = 19 then decide (-128 ≤ v ∧ v ≤ 127)
  else if k = 20 then decide (0 ≤ v ∧ v ≤ 18446744073709551615) else if k = 21 then decide (0 ≤ v ∧ v ≤ 4294967295)
  else if k = 22 then decide (0 ≤ v ∧ v ≤ 65535) else if k = 23 then decide (0 ≤ v ∧ v ≤ 255) else true
def cntB (k : Int) (l : List Int) (n : Dc.Nm) : Bool := if k = 10 then true else if Dc.ix l = -1 then wiB k (Dc.nv n 0) else false

theorem ix_cons {c : Int} {l : List Int} (h : Dc.ix (c :: l) = -1) : c ≠ 46 ∧ Dc.ix l = -1 := by
  rw [Dc.ix] at h
  by_cases h1 : c = 46
  · rw [if_pos h1] at h; omega
  · rw [if_neg h1] at h
    by_cases h2 : Dc.ix l = -1
    · exact ⟨h1, h2⟩
    · rw [if_neg h2] at h
      have := Dc.ix_bd l
      omega
theorem sc_nopoint : ∀ (l b : List Int) (s : Nat) (r : List Int × Nat), Dc.ix l = -1 → Dc.scS l b s false = some r → r.2 = s
  | [], b, s, r, h, hr => by
    simp only [Dc.scS, Option.some.injEq] at hr
    rw [← hr]
  | c :: l, b, s, r, h, hr => by
    obtain ⟨h1, h2⟩ := ix_cons h
    rw [Dc.scS] at hr
    by_cases hc : 48 ≤ c ∧ c ≤ 57
    · rw [if_pos hc] at hr
      exact sc_nopoint l _ s r h2 (by simpa using hr)
    · rw [if_neg hc, if_neg (fun q => h1 q.1)] at hr
      cases hr
theorem sg_ix {l : List Int} (h : Dc.ix l = -1) : Dc.ix (Dc.sgS l).2 = -1 := by
  cases l with
  | nil => exact h
  | cons c l =>
    obtain ⟨h1, h2⟩ := ix_cons h
    rw [Dc.sgS]
    by_cases e1 : c = 43
    · rw [if_pos e1]; exact h2
    · rw [if_neg e1]
      by_cases e2 : c = 45
      · rw [if_pos e2]; exact h2
      · rw [if_neg e2]; exact h
theorem par_whole {l : List Int} {n : Dc.Nm} (h : Dc.parS l = .ok n) (hi : Dc.ix l = -1) : n.2.2 = 0 := by
  unfold Dc.parS at h
  by_cases hl : 4096 < l.length
  · rw [if_pos hl] at h; cases h
  · rw [if_neg hl] at h
    cases hs : Dc.scS (Dc.sgS l).2 [] 0 false with
    | none => rw [hs] at h; cases h
    | some r =>
      rw [hs] at h
      have h0 := sc_nopoint _ _ _ _ (sg_ix hi) hs
      obtain ⟨b, s⟩ := r
      dsimp only at h h0
      subst h0
      by_cases hb : b = []
      · rw [if_pos hb] at h; cases h
      · rw [if_neg hb] at h
        have e := (Except.ok.inj h).symm
        rw [e]
        rfl
def dvn (acc : Int) (ds : List Int) : Int := ds.foldl (fun a d => a * 10 + d) acc
theorem dvn_ge : ∀ (ds : List Int) (acc : Int), Dc.Dg ds → 0 ≤ acc → acc ≤ dvn acc ds
  | [], acc, h, h0 => by simp [dvn]
  | d :: ds, acc, h, h0 => by
    obtain ⟨hd, hl⟩ := h.cons
    have := dvn_ge ds (acc * 10 + d) hl (by omega)
    show acc ≤ dvn (acc * 10 + d) ds
    omega
def dby (ds : List Int) : List UInt8 := ds.map fun d => UInt8.ofNat (d + 48).toNat
theorem dby_at {d : Int} (h0 : 0 ≤ d) (h1 : d ≤ 9) : (UInt8.ofNat (d + 48).toNat).toNat = d.toNat + 48 := by
  rw [UInt8.toNat_ofNat']
  omega
theorem pum : ∀ (ds : List Int) (M acc : Nat), Dc.Dg ds → M ≤ 18446744073709551615 → acc ≤ M → Lib.parseUintM M acc (dby ds) = if dvn (acc : Int) ds ≤ (M : Int) then .ok (dvn (acc : Int) ds).toNat else .range
  | [], M, acc, h, hM, ha => by
    have : dvn (acc : Int) [] = acc := rfl
    rw [this, if_pos (by omega)]
    simp [dby, Lib.parseUintM]
  | d :: ds, M, acc, h, hM, ha => by
    obtain ⟨hd, hl⟩ := h.cons
    have e0 : dby (d :: ds) = UInt8.ofNat (d + 48).toNat :: dby ds := rfl
    have e1 : dvn (acc : Int) (d :: ds) = dvn ((acc : Int) * 10 + d) ds := rfl
    have e2 := dby_at hd.1 hd.2
    have e3 := dvn_ge ds ((acc : Int) * 10 + d) hl (by omega)
    rw [e0, Lib.parseUintM, e2, if_pos (by omega), e1]
    by_cases c1 : 1844674407370955162 ≤ acc
    · rw [if_pos c1, if_neg (by omega)]
    · rw [if_neg c1]
      by_cases c2 : M < acc * 10 + (d.toNat + 48 - 48)
      · rw [if_pos c2, if_neg (by omega)]
      · rw [if_neg c2, pum ds M _ hl hM (by omega)]
        have e4 : ((acc * 10 + (d.toNat + 48 - 48) : Nat) : Int) = (acc : Int) * 10 + d := by omega
        rw [e4]
theorem tx_whole {n : Dc.Nm} (h0 : n.2.2 = 0) : Dc.txS n = (if n.1 = true then [45] else []) ++ n.2.1.map (· + 48) := by
  unfold Dc.txS
  rw [h0]
  simp
theorem sb_data (l : List Int) : (Dc.sb l).data.toList = l.map fun d => UInt8.ofNat d.toNat := by simp [Dc.sb]
theorem dby_map (ds : List Int) : (ds.map (· + 48)).map (fun d => UInt8.ofNat d.toNat) = dby ds := by
  unfold dby
  rw [List.map_map]
  rfl
theorem nv_whole {n : Dc.Nm} (h0 : n.2.2 = 0) : Dc.nv n 0 = if n.1 = true then -(Dc.dval n.2.1) else Dc.dval n.2.1 := by
  unfold Dc.nv
  rw [h0]
  simp [Dc.p10]
theorem dv_dvn (ds : List Int) : dvn ((0 : Nat) : Int) ds = Dc.dval ds := rfl
theorem dval_ge {ds : List Int} (h : Dc.Dg ds) : 0 ≤ Dc.dval ds := dvn_ge ds 0 h (by omega)
/-- ParseUint's reading of a row of digits. -/
theorem pub {ds : List Int} (h : Dc.Dg ds) (hn : ds ≠ []) (B : Nat) (hB : 2 ^ B - 1 ≤ 18446744073709551615) : Lib.parseUintB B (dby ds) = if Dc.dval ds ≤ ((2 ^ B - 1 : Nat) : Int) then .ok (Dc.dval ds).toNat else .range := by
  unfold Lib.parseUintB
  rw [if_neg (fun q => hn (by cases ds with | nil => rfl | cons d ds => cases q)), pum ds _ 0 h hB (Nat.zero_le _), dv_dvn]
theorem pu_tx {n : Dc.Nm} (h : Dc.CN n) (h0 : n.2.2 = 0) (B : Nat) (hB : 2 ^ B - 1 ≤ 18446744073709551615) :
    Lib.parseUintB B (Dc.sb (Dc.txS n)).data.toList = if Dc.nv n 0 < 0 then .syntax else if Dc.nv n 0 ≤ ((2 ^ B - 1 : Nat) : Int) then .ok (Dc.nv n 0).toNat else .range := by
  have hne : n.2.1 ≠ [] := fun q => by have := h.1.len; rw [q] at this; simp at this
  have hg := dval_ge h.1.dg
  rw [sb_data, tx_whole h0, nv_whole h0]
  cases hb : n.1 with
  | true =>
    have := h.2 hb
    rw [if_pos rfl, if_pos rfl, if_pos (by omega)]
    unfold Lib.parseUintB
    simp [Lib.parseUintM]
  | false =>
    simp only [Bool.false_eq_true, if_false, List.nil_append]
    rw [dby_map, pub h.1.dg hne B hB, if_neg (by omega : ¬ Dc.dval n.2.1 < 0)]
theorem pi_tx {n : Dc.Nm} (h : Dc.CN n) (h0 : n.2.2 = 0) (B : Nat) (hB : 2 ^ B - 1 ≤ 18446744073709551615) (H : Nat) (hH : 2 ^ (B - 1) = H) (hH2 : 2 ^ B = 2 * H) (hH1 : 1 ≤ H) :
    (-(H : Int) ≤ Dc.nv n 0 ∧ Dc.nv n 0 ≤ (H : Int) - 1 → Lib.parseIntB B (Dc.sb (Dc.txS n)).data.toList = .ok (Dc.nv n 0)) ∧
    (¬ (-(H : Int) ≤ Dc.nv n 0 ∧ Dc.nv n 0 ≤ (H : Int) - 1) → Lib.parseIntB B (Dc.sb (Dc.txS n)).data.toList = .range) := by
  have hne : n.2.1 ≠ [] := fun q => by have := h.1.len; rw [q] at this; simp at this
  have hg := dval_ge h.1.dg
  have hp := pub h.1.dg hne B hB
  rw [sb_data, tx_whole h0, nv_whole h0]
  have e1 : ((2 ^ B - 1 : Nat) : Int) = 2 * (H : Int) - 1 := by rw [hH2]; omega
  rw [e1] at hp
  cases hb : n.1 with
  | true =>
    have hz := h.2 hb
    rw [if_pos rfl, if_pos rfl]
    have e2 : ([45] ++ n.2.1.map (· + 48)).map (fun d : Int => UInt8.ofNat d.toNat) = (45 : UInt8) :: dby n.2.1 := by
      rw [List.map_append, dby_map]; rfl
    rw [e2, Lib.parseIntB]
    have e3 : ((45 : UInt8).toNat = 43 ∨ (45 : UInt8).toNat = 45) := .inr rfl
    rw [if_pos e3, hp, hH]
    by_cases c : Dc.dval n.2.1 ≤ 2 * (H : Int) - 1
    · rw [if_pos c]
      have e4 : ((Dc.dval n.2.1).toNat : Int) = Dc.dval n.2.1 := by omega
      have e5 : (45 : UInt8).toNat = 45 := rfl
      dsimp only
      simp only [e5, not_true, false_and, if_false, true_and, if_true]
      constructor
      · intro q
        rw [if_neg (by omega), e4]
      · intro q
        rw [if_pos (by omega)]
    · rw [if_neg c]
      exact ⟨fun q => by omega, fun q => rfl⟩
  | false =>
    rw [if_neg (by simp), if_neg (by simp), List.nil_append, dby_map]
    obtain ⟨d, ds, hd⟩ : ∃ d ds, n.2.1 = d :: ds := by
      cases hq : n.2.1 with
      | nil => exact absurd hq hne
      | cons d ds => exact ⟨d, ds, rfl⟩
    have hdg := h.1.dg d (by rw [hd]; simp)
    have e0 : dby n.2.1 = UInt8.ofNat (d + 48).toNat :: dby ds := by rw [hd]; rfl
    have e2 := dby_at hdg.1 hdg.2
    have e6 : Lib.parseIntB B (dby n.2.1) = match Lib.parseUintB B (dby n.2.1) with
      | .syntax => .syntax
      | .range => .range
      | .ok u => if 2 ^ (B - 1) ≤ u then .range else .ok (u : Int) := by
      rw [e0, Lib.parseIntB, e2, if_neg (by omega)]
      have f1 : ¬ (d.toNat + 48 = 45) := by omega
      cases Lib.parseUintB B (UInt8.ofNat (d + 48).toNat :: dby ds) <;> simp [f1]
    rw [e6, hp, hH]
    by_cases c : Dc.dval n.2.1 ≤ 2 * (H : Int) - 1
    · rw [if_pos c]
      have e4 : ((Dc.dval n.2.1).toNat : Int) = Dc.dval n.2.1 := by omega
      dsimp only
      constructor
      · intro q
        rw [if_neg (by omega), e4]
      · intro q
        rw [if_pos (by omega)]
    · rw [if_neg c]
      exact ⟨fun q => by omega, fun q => rfl⟩
end Go.Proofs.YtgaegajcejpmdaaGreatDoor
