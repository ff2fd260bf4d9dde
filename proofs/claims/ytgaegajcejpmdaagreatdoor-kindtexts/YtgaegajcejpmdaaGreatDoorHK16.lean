/- What the rows' cell 'laid' gives: the table of tens, the names, the two errors. -/
import Derived.Test.YtgaegajcejpmdaaGreatDoorRows
import Derived.Test.YtgaegajcejpmdaaGreatDoorHJ10
import Derived.Lib.LaidTab
import Derived.LaidMore
import Derived.Stop.LaidErr
import Derived.Stop.Joined
import Derived.ProofKit
import Derived.SevenTiedAt
namespace Go.Proofs.YtgaegajcejpmdaaGreatDoor
open Go.RowKit
set_option linter.unusedVariables false

def strData {H : Type} (ss : List ByteArray) : DataW H := .agg (ss.map fun s => .lit (.string s.data.toList))
theorem ba_ext {a b : ByteArray} (h : a.data.toList = b.data.toList) : a = b := by
  cases a; cases b
  congr 1
  exact Array.toList_inj.1 h
theorem cells_of_strs {H : Type} {enc : TypeId × Value → H} {P : Program} {w : World} {base : Nat} {sp : Nat → Bool} {held : Bool} {fuel : Nat} {t e : TypeId} {n : Nat} {cs : List Value} {zs : List ByteArray} {p : List MemPlace}
    (ht : P.underlying t = some (.array n e)) (he : P.underlying e = some .string) (hce : P.cellsOf e = 1) (hct : P.cellsOf t = n)
    (h : DataW.trod enc P w base sp held fuel t cs = some (strData zs, p)) : cs = zs.map Value.string := by
  cases fuel with
  | zero => simp [DataW.trod] at h
  | succ fuel =>
    simp only [DataW.trod, ht, hce, hct, Nat.mul_one] at h
    split at h
    · rename_i hl
      obtain ⟨xs, hm, hx⟩ := Option.map_eq_some_iff.1 h
      have hxs : xs.map (·.1) = zs.map fun s => (DataW.lit (.string s.data.toList) : DataW H) := by
        have := congrArg Prod.fst hx
        simpa [strData] using this
      have hxl : xs.length = n := by simpa using Lib.mapM_length hm
      have hzl : zs.length = n := by
        have := congrArg List.length hxs
        simp at this
        omega
      apply List.ext_getElem?
      intro i
      by_cases hi : i < n
      · obtain ⟨b, hb, hf⟩ := Lib.mapM_at hm i i (by simp [hi])
        obtain ⟨z, hc, rfl, _⟩ := DataW.trod_string he hf
        have h1 : cs[i]? = some (.string z) := by
          have := congrArg (·[0]?) hc
          simpa [List.getElem?_take, List.getElem?_drop] using this
        have h2 : (xs.map (·.1))[i]? = some (DataW.lit (.string z.data.toList) : DataW H) := by simp [hb]
        rw [hxs] at h2
        simp only [List.getElem?_map, Option.map_eq_some_iff, DataW.lit.injEq, Lit.string.injEq] at h2
        obtain ⟨z', hz', hq⟩ := h2
        have : z' = z := ba_ext hq
        subst this
        simp [h1, hz']
      · rw [List.getElem?_eq_none (by omega), List.getElem?_eq_none (by simp; omega)]
    · cases h
theorem same_pow : (Rows.laid_internal_strconv_uint64pow10 : DataW Unit) = Lib.tabData .u64 Lib.pow10Tab := by rfl
theorem same_nm : (Rows.laid_rubric_kind_names : DataW Unit) = strData nmL := by rfl
theorem row_es : ∀ u, Tryz.prog.typeName? 3 u = some "*errors.errorString" → u = 204 := typeName_ptr_named (nm := "errors.errorString") (by kernel_rfl) (by kernel_rfl) (by decide)
theorem lw_of {W : World} (h0 : laidMetH Tryz.prog Rows.kindTablesRow.laid W) : Lw W := by
  rw [MakeChecks.laidMetH_plain _ _ _ (by kernel_rfl)] at h0
  have h2 := laidMet.tail (laidMet.tail h0)
  have h3 := laidMet.tail h2
  have h4 := laidMet.tail h3
  have h5 := laidMet.tail h4
  obtain ⟨a3, s3, hv3, _⟩ := laid_sentinel (g := 3) (tp := 204) (te := 206) (ts := 9) h3 (by kernel_rfl) (by kernel_rfl) Tryz.underlying132 row_es Tryz.underlying204 Tryz.underlying206 rfl rfl Tryz.underlying9 (by kernel_rfl) (by kernel_rfl)
  obtain ⟨a4, s4, hv4, _⟩ := laid_sentinel (g := 2) (tp := 204) (te := 206) (ts := 9) h4 (by kernel_rfl) (by kernel_rfl) Tryz.underlying132 row_es Tryz.underlying204 Tryz.underlying206 rfl rfl Tryz.underlying9 (by kernel_rfl) (by kernel_rfl)
  refine ⟨?_, ?_, ⟨_, _, hv3⟩, ⟨_, _, hv4⟩⟩
  · obtain ⟨ps, ⟨g, t, cs, fuel, p, q, hg, ht, hv, hd, _, _⟩, _, _⟩ := h2
    obtain rfl := Option.some.inj ((show Tryz.prog.globalNamed Dc.tabN = some 4 by kernel_rfl).symm.trans hg)
    obtain rfl := Option.some.inj ((show (Tryz.prog.globals[4]?).map (·.type) = some 198 by kernel_rfl).symm.trans ht)
    rw [same_pow] at hd
    have e := Lib.cells_of_tab (n := 20) (e := 86) (show Tryz.prog.underlying 198 = some (.array 20 86) by kernel_rfl) (show Tryz.prog.underlying 86 = some (.int .u64) by kernel_rfl) (by kernel_rfl) (by kernel_rfl) hd
    have hv' : W.var? Tryz.prog Dc.tabN = some cs := hv
    unfold Dc.Tab Lib.TabIs
    rw [hv', ← e]
  · obtain ⟨ps, ⟨g, t, cs, fuel, p, q, hg, ht, hv, hd, _, _⟩, _, _⟩ := h5
    have hg' := hg
    obtain rfl := Option.some.inj ((show Tryz.prog.globalNamed _ = some 0 by kernel_rfl).symm.trans hg)
    obtain rfl := Option.some.inj ((show (Tryz.prog.globals[0]?).map (·.type) = some 65 by kernel_rfl).symm.trans ht)
    rw [same_nm] at hd
    have e := cells_of_strs (n := 33) (e := 9) (show Tryz.prog.underlying 65 = some (.array 33 9) by kernel_rfl) (show Tryz.prog.underlying 9 = some .string by kernel_rfl) (by kernel_rfl) (by kernel_rfl) hd
    unfold World.var? at hv
    simp only [hg', Option.bind_some] at hv
    cases hb : W.heap[0]? with
    | none => rw [hb] at hv; cases hv
    | some o =>
      rw [hb] at hv
      cases o with
      | cells c t f =>
        have : c = cs := Option.some.inj hv
        subst this
        refine ⟨t, f, ?_⟩
        rw [hb]
        congr 2
        apply Array.toList_inj.1
        rw [e]
      | _ => cases hv
end Go.Proofs.YtgaegajcejpmdaaGreatDoor
