/- Joined: HK31, HK32, HK33, HK46, HK47, HK40, HK41, HK42, HK48, HK49. -/
import Derived.Test.YtgaegajcejpmdaaGreatDoorHJ25
import Derived.Test.YtgaegajcejpmdaaGreatDoorHK31j
import Derived.Laws.Tables
import Derived.Deep.MidRow
import Derived.Deep.RegionHeld3
import Derived.Deep.DeepCutAuto
import Derived.Test.YtgaegajcejpmdaaGreatDoorHJ10
import Derived.Test.YtgaegajcejpmdaaGreatDoorHJ9
import Derived.Test.YtgaegajcejpmdaaGreatDoorHJ14
import Derived.Test.YtgaegajcejpmdaaGreatDoorHJ4
namespace Go.Proofs.YtgaegajcejpmdaaGreatDoor
open Go.RowKit
set_option linter.unusedVariables false
set_option linter.unusedSimpArgs false

def itT (n : Int) : ByteArray := ⟨(Lib.itoa n).toArray⟩
def rowL (k : Int) (l : List Int) : List ByteArray := nmS k :: l.map itT
def rowT (k : Int) (l : List Int) : ByteArray := ⟨(Lib.join ((rowL k l).map (·.data.toList)) [32]).toArray⟩
def I64 (n : Int) : Prop := -9223372036854775808 ≤ n ∧ n ≤ 9223372036854775807
theorem it_size {n : Int} (h : I64 n) : (itT n).size ≤ 4096 := by
  have h1 := Dc.par_ok (Dc.par_itoa n h.1 h.2)
  have h2 := h1.2.2.2
  have : (itT n).size = ((Lib.itoa n).map fun c => (c.toNat : Int)).length := by simp [itT, ByteArray.size]
  omega
theorem nm_size (k : Int) : (nmS k).size ≤ 100 := by
  unfold nmS
  split
  · have h : ∀ x ∈ nmL, x.size ≤ 100 := by decide
    rw [List.getD_eq_getElem?_getD]
    cases hg : nmL[k.toNat]? with
    | none => exact Nat.zero_le _
    | some x => exact h x (List.mem_of_getElem? hg)
  · exact Nat.zero_le _
theorem lens_le (L : List (List UInt8)) (m : Nat) (h : ∀ x ∈ L, x.length ≤ m) : Lib.lens L ≤ L.length * m := by
  induction L with
  | nil => simp [Lib.lens]
  | cons a L ih =>
    have h1 := ih (fun x hx => h x (by simp [hx]))
    have h2 := h a (by simp)
    simp only [Lib.lens, List.map_cons, List.sum_cons, List.length_cons, Nat.add_mul, Nat.one_mul] at h1 ⊢
    omega
theorem row_len {k : Int} {l : List Int} (hl : l.length ≤ 10) (hI : ∀ n ∈ l, I64 n) : (Lib.join ((rowL k l).map (·.data.toList)) [32]).length ≤ 100000 := by
  unfold rowL
  rw [List.map_cons, Lib.join_length]
  have h := lens_le ((nmS k).data.toList :: (l.map itT).map (·.data.toList)) 4096 (fun x hx => by
    simp only [List.mem_cons, List.mem_map] at hx
    rcases hx with rfl | ⟨y, ⟨n, hn, rfl⟩, rfl⟩
    · have := nm_size k
      show (nmS k).size ≤ 4096
      omega
    · exact it_size (hI n hn))
  simp only [List.length_cons, List.length_map, List.length_nil] at h ⊢
  omega
theorem info_s : ∃ i, Tryz.prog.info? 9 = some i ∧ i.zero = some (.string ⟨#[]⟩) ∧ i.size = 1 ∧ i.bytes = 16 := by
  have := Ch.info9
  cases h : Tryz.prog.info? 9 with
  | none => rw [h] at this; simp at this
  | some i =>
    rw [h] at this
    simp at this
    exact ⟨i, rfl, this.1, this.2.1, this.2.2⟩
def strV (l : List ByteArray) : List Value := l.map Value.string
def RowI (k : Int) (l : List Int) (w : World) (j : Nat) (v : Value) (wr : World) : Prop :=
  wr.ownsRow w.heap.size 9 1 v (j + 1) (strV (rowL k (l.take j))) ∧ Below w.heap.size w wr
set_option maxRecDepth 8000 in
set_option maxHeartbeats 1000000 in
theorem row_p (k : Int) (l : List Int) (b c : Nat) (w : World) (hw : Lw w) (hl : l.length ≤ 10) (hI : ∀ n ∈ l, I64 n) (hb : b < w.heap.size) (hcell : ∀ (j : Nat) (hj : j < l.length), w.cell? ⟨b, j, none⟩ = some (.int .i64 l[j])) :
    Calls Tryz.prog 46 #[.int .i64 k, .slice (some ⟨b, 0, none⟩) l.length c] w fun e w' => e = .returned (.string (rowT k l)) ∧ Below w.heap.size w w' := by
  obtain ⟨i0, hi, hz, hzs, hby⟩ := info_s
  have h0 : RowI k l w 0 (.slice (some ⟨w.heap.size, 0, none⟩) 1 1) (w.alloc (.cells #[.string (nmS k)] 9)) := by
    refine ⟨⟨rfl, .inr ⟨w.heap.size, 1, #[.string (nmS k)], rfl, Nat.le_refl _, M.nw_heap _ _, Nat.le_refl _, by decide, rfl, by simp [strV, rowL]⟩⟩, (Below.refl _ _).alloc (Nat.le_refl _) _⟩
  have HX : Hid _ := And.intro h0 (And.intro hcell (And.intro hI (And.intro hw hl)))
  clear h0 hcell hI hl
  go_enter Tryz.func46, Tryz.ntmps46
  go_wp2_with (go_at_call 11; refine (name_k k _ hw.nm).mono ?_; rintro e w' ⟨rfl, hw2⟩; have hw3 := hw2.symm; clear hw2; subst hw3)
  clear hw
  go_loopg [5, 13] l.length (fun g v5 v13 wr => ∃ j : Nat, j + g = l.length ∧ v13 = .int .i64 (j : Int) ∧ RowI k l w j v5 wr)
  case atStart => exact ⟨0, by omega, rfl, HX.out.1⟩
  case round =>
    obtain ⟨j, hjg, rfl, hown, hbel⟩ := hrel
    by_cases hlt : j < l.length
    · obtain ⟨q, rfl⟩ : ∃ q, gk = q + 1 := ⟨gk - 1, by omega⟩
      have hc := (hbel.cell (p := ⟨b, j, none⟩) hb).trans (HX.out.2.1 j hlt)
      have hn := HX.out.2.2.1 l[j] (List.getElem_mem hlt)
      have hit := Dc.itoa_p l[j] hn.1 hn.2 wr ((HX.out.2.2.2.1.below hbel).tab)
      have hl10 := HX.out.2.2.2.2
      have et : rowL k (l.take (j + 1)) = rowL k (l.take j) ++ [itT l[j]] := by
        unfold rowL
        rw [M.take_snoc hlt, List.map_append]
        rfl
      have HO : Hid _ := And.intro hown (And.intro hbel (And.intro hit et))
      clear hown hbel hn hit et
      generalize l[j] = n at *
      obtain ⟨g, vc, rfl⟩ : ∃ g c, u5 = .slice (some ⟨g, 0, none⟩) (j + 1) c := by
        rcases HO.out.1.2 with ⟨_, h0⟩ | ⟨g, cap, cur, rfl, _⟩
        · omega
        · exact ⟨g, cap, rfl⟩
      have e1 : (j : Int) < (l.length : Int) := by omega
      have e2 : (0 : Int) ≤ (j : Int) := by omega
      go_wp2_with (first | (go_at_call 85; refine Calls.mono HO.out.2.2.1 ?_; rintro e w5 ⟨rfl, hb5⟩; have H5 : Hid _ := hb5; clear hb5) | (at_builtin; go_loud (refine wpList_append_own _ rfl _ _ 62 rfl w.heap.size 9 i0 (.string ⟨#[]⟩) 1 16 Tryz.underlying62 hi hz hzs hby rfl (by decide) _ _ _ rfl (M.row_below (M.row_below HO.out.1 H5.out) ((Below.refl _ _).alloc (Nat.le_refl _) _)) ⟨_, 0, none⟩ 1 1 [.string (itT n)] rfl rfl (cell_one_new _ _ _) (by simp [Value.oneCell']) (by unfold maxLen; omega) (by omega) (by have := HO.out.2.1.size; have := H5.out.size; simp; omega) ?_); intro v' w7 hown7 hgr7 _))
      go_roundg q
      case measure => omega
      case rel =>
        have hrb := M.row_base HO.out.1
        refine ⟨j + 1, by omega, by go_num, ?_, ?_⟩
        · rw [HO.out.2.2.2]
          unfold strV at hown7 ⊢
          rw [List.map_append]
          exact hown7
        · have hb6 := (HO.out.2.1.trans (H5.out.mono HO.out.2.1.size))
          have hb7 := hb6.trans (((Below.refl _ _).alloc (Nat.le_refl _) (.cells #[.string (itT n)] 9)).mono hb6.size)
          exact hb7.trans ((M.Fro.grown (O := fun i => (Value.slice (some ⟨g, 0, none⟩) (j + 1) vc).ownBlock = some i) hgr7 (fun i hi => hi)).toBelow hb7.size (fun i hi hq => by have := (hrb i hq).1; omega))
    · have hj : j = l.length := by omega
      subst hj
      have hr : (rowL k l).length = l.length + 1 := by simp [rowL]
      obtain ⟨h1, h2⟩ := hown
      rw [List.take_length] at h1 h2
      rcases h2 with ⟨_, h0⟩ | ⟨g, cap, cur, rfl, h3, h4, h5, h6, h7, h8⟩
      · omega
      · have hcs : ∀ (i : Nat) x, (rowL k l)[i]? = some x → wr.cell? ⟨g, 0 + i, none⟩ = some (.string x) := fun i x hx => by
          have hown : wr.ownsRow w.heap.size 9 1 (.slice (some ⟨g, 0, none⟩) (l.length + 1) cap) (l.length + 1) (strV (rowL k l)) := ⟨h1, .inr ⟨g, cap, cur, rfl, h3, h4, h5, h6, h7, h8⟩⟩
          have := World.ownsRow.cells (g := g) hown rfl i (.string x) (by simp [strV, hx])
          rw [Addr.add_lit] at this
          exact this
        have hjn := join_p g 0 cap (rowL k l) wr hcs (M.lt_of h4) (by rw [hr]; have := HX.out.2.2.2.2; omega) (by rw [hr]; exact h5) (row_len HX.out.2.2.2.2 HX.out.2.2.1)
        rw [hr] at hjn
        have HJ : Hid _ := And.intro hjn hbel
        clear hjn hbel hcs h1 h3 h4 h5 h6 h7 h8 hr
        go_wp2_with (go_at_call 86; refine Calls.mono HJ.out.1 ?_; rintro e w8 ⟨rfl, hb8⟩; have H8 : Hid _ := hb8; clear hb8)
        go_ret
        exact ⟨rfl, HJ.out.2.trans (H8.out.mono HJ.out.2.size)⟩
end Go.Proofs.YtgaegajcejpmdaaGreatDoor
namespace Go.Proofs.YtgaegajcejpmdaaGreatDoor
open Go.RowKit
set_option linter.unusedVariables false
set_option linter.unusedSimpArgs false

def moF (m : Dt.Mo) : List Int := if m.hz = true then [m.y, m.m, m.d, m.s, m.n, m.z] else [m.y, m.m, m.d, m.s, m.n]
def spF (q : Dt.Sp) : List Int := [q.o, q.s, q.n]
/-- A value's text. -/
def txK : Kd → ByteArray
  | .txt _ t => t
  | .num n => Dc.sb (Dc.txS n)
  | .mom k m => rowT k (moF m)
  | .spn q => rowT 32 (spF q)
def inV (l : List Int) : List Value := l.map (Value.int .i64)
theorem row_own (k : Int) (l : List Int) {w : World} (hw : Lw w) (hl : l.length ≤ 10) (h0 : 0 < l.length) (hI : ∀ n ∈ l, I64 n) (W : World) (hW : Below w.heap.size w W) (base : Nat) (v : Value) (ho : W.ownsRow base 3 1 v l.length (inV l)) :
    Calls Tryz.prog 46 #[.int .i64 k, v] W fun e w' => e = .returned (.string (rowT k l)) ∧ Below w.heap.size w w' := by
  obtain ⟨h1, h2⟩ := ho
  rcases h2 with ⟨_, h⟩ | ⟨g, cap, cur, rfl, h3, h4, h5, h6, h7, h8⟩
  · omega
  · have hown : W.ownsRow base 3 1 (.slice (some ⟨g, 0, none⟩) l.length cap) l.length (inV l) := ⟨h1, .inr ⟨g, cap, cur, rfl, h3, h4, h5, h6, h7, h8⟩⟩
    refine (row_p k l g cap W (hw.below hW) hl hI (M.lt_of h4) (fun j hj => ?_)).mono ?_
    · have := World.ownsRow.cells (g := g) hown rfl j (.int .i64 l[j]) (by simp [inV, hj])
      rw [Addr.add_lit, Nat.zero_add] at this
      exact this
    · rintro e w' ⟨rfl, hb⟩
      exact ⟨rfl, hW.trans (hb.mono hW.size)⟩
theorem own_new (w : World) (l : List Int) (base : Nat) (hb : base ≤ w.heap.size) (hl : l.length ≤ 100) (B : Nat) (hB : w.heap.size = B) : (w.alloc (.cells (inV l).toArray 3)).ownsRow base 3 1 (.slice (some ⟨B, 0, none⟩) l.length l.length) l.length (inV l) := by
  subst hB
  refine ⟨by simp [inV], .inr ⟨w.heap.size, l.length, (inV l).toArray, rfl, hb, M.nw_heap _ _, Nat.le_refl _, by unfold maxLen; omega, by simp [inV], ?_⟩⟩
  simp only [Nat.mul_one]
  exact List.take_of_length_le (by simp [inV])
theorem cell_one_at (w : World) (x : Value) (t : TypeId) (B : Nat) (hB : w.heap.size = B) : ∀ j u, [x][j]? = some u → (w.alloc (.cells #[x] t)).cell? ((⟨B, 0, none⟩ : Addr).add j) = some u := by
  subst hB
  exact cell_one_new w x t
theorem grown_bel {w W w' : World} {g n c : Nat} (h : Below w.heap.size w W) (hg : W.grownBy w' (Value.slice (some ⟨g, 0, none⟩) n c).ownBlock) (hb : w.heap.size ≤ g) : Below w.heap.size w w' :=
  h.trans ((M.Fro.grown (O := fun i => i = g) hg (fun i hi => by simp [Value.ownBlock] at hi; omega)).toBelow h.size (fun i hi hq => by omega))
theorem grown_cell {W w' : World} {g n c i o : Nat} {v : Value} (hg : W.grownBy w' (Value.slice (some ⟨g, 0, none⟩) n c).ownBlock) (hi : i < W.heap.size) (hne : i ≠ g) (h : W.cell? ⟨i, o, none⟩ = some v) : w'.cell? ⟨i, o, none⟩ = some v :=
  M.cell_of ((M.Fro.grown (O := fun i => i = g) hg (fun i hi => by simp [Value.ownBlock] at hi; omega)).block i hi hne) h
theorem info_n : ∃ i, Tryz.prog.info? 3 = some i ∧ i.zero = some (.int .i64 0) ∧ i.size = 1 ∧ i.bytes = 8 := by
  have : (Tryz.prog.info? 3).map (fun i => (i.zero, i.size, i.bytes)) = some (some (.int .i64 0), 1, 8) := by kernel_rfl
  cases h : Tryz.prog.info? 3 with
  | none => rw [h] at this; simp at this
  | some i =>
    rw [h] at this
    simp at this
    exact ⟨i, rfl, this.1, this.2.1, this.2.2⟩
theorem sp_I {q : Dt.Sp} (h : Dt.SpT q) : ∀ n ∈ spF q, I64 n := by
  intro n hn
  have := h.o0; have := h.o1; have := h.s0; have := h.s1; have := h.n0; have := h.n1
  simp only [spF, List.mem_cons, List.not_mem_nil, or_false] at hn
  unfold I64
  rcases hn with rfl | rfl | rfl <;> omega
theorem mo_I {m : Dt.Mo} (h : Dt.MoL m) : I64 m.y ∧ I64 m.m ∧ I64 m.d ∧ I64 m.s ∧ I64 m.n ∧ I64 m.z := by
  have := h.b.y0; have := h.b.y1; have := h.b.m0; have := h.b.m1; have := h.b.d0; have := h.b.d1; have := h.b.s0; have := h.b.s1; have := h.n0; have := h.n1; have := h.z0; have := h.z1
  unfold I64
  omega
theorem bel1 {w W : World} (h : Below w.heap.size w W) (o : Obj) : Below w.heap.size w (W.alloc o) := h.alloc h.size o
set_option maxRecDepth 100000 in
set_option maxHeartbeats 1600000 in
theorem text_spn (t1 : ByteArray) (g1 : Bool) (a1 : Option Addr) (b1 c1 : Nat) (s1 : Int) (m1 : Dt.Mo) (q1 : Dt.Sp) {w : World} (hw : Lw w) (l1 : Dt.SpT q1) : Calls Tryz.prog 24 #[vlV 32 t1 g1 (.slice a1 b1 c1) s1 m1 q1] w fun e w' => e = .returned (.string (rowT 32 (spF q1))) ∧ Below w.heap.size w w' := by
  have HR : Hid _ := row_own 32 (spF q1) hw (by simp [spF]) (by simp [spF]) (sp_I l1)
  have HN : Hid _ := fun W hW => own_new W (spF q1) w.heap.size hW (by simp [spF])
  clear l1 hw
  go_enter Tryz.func24, Tryz.ntmps24
  go_wp2_with (go_at_call 46; refine Calls.mono (HR.out _ (bel1 (bel1 (Below.refl _ _) _) _) _ _ (HN.out _ (bel1 (Below.refl _ _) _).size _ (by simp))) ?_; rintro e w9 ⟨rfl, hb9⟩)
  go_ret
  exact ⟨rfl, hb9⟩
set_option maxRecDepth 100000 in
set_option maxHeartbeats 1600000 in
theorem text_mmf (k : Int) (h0 : 24 ≤ k) (h1 : k ≤ 31) (t1 : ByteArray) (g1 : Bool) (a1 : Option Addr) (b1 c1 : Nat) (s1 mk my mm md ms mn mz : Int) (q1 : Dt.Sp) {w : World} (hw : Lw w) (hI : ∀ n ∈ [my, mm, md, ms, mn], I64 n) : Calls Tryz.prog 24 #[vlV k t1 g1 (.slice a1 b1 c1) s1 ⟨mk, my, mm, md, ms, mn, false, mz⟩ q1] w fun e w' => e = .returned (.string (rowT k [my, mm, md, ms, mn])) ∧ Below w.heap.size w w' := by
  obtain ⟨i0, hi, hz, hzs, hby⟩ := info_n
  have HR : Hid _ := row_own k [my, mm, md, ms, mn] hw (by simp) (by simp) hI
  have HN : Hid _ := fun W hW => own_new W [my, mm, md, ms, mn] w.heap.size hW (by simp)
  have HC : Hid _ := fun W (hW : Below (w.alloc (.cells #[.int .i64 k, .string t1, .bool g1, .slice a1 b1 c1, .int .i64 s1, .int .i64 mk, .int .i64 my, .int .i64 mm, .int .i64 md, .int .i64 ms, .int .i64 mn, .bool false, .int .i64 mz, .int .i64 q1.o, .int .i64 q1.s, .int .i64 q1.n] 40)).heap.size (w.alloc (.cells #[.int .i64 k, .string t1, .bool g1, .slice a1 b1 c1, .int .i64 s1, .int .i64 mk, .int .i64 my, .int .i64 mm, .int .i64 md, .int .i64 ms, .int .i64 mn, .bool false, .int .i64 mz, .int .i64 q1.o, .int .i64 q1.s, .int .i64 q1.n] 40)) W) => (row_cell ((hW.block _ (by simp)).trans (M.nw_heap w (.cells #[.int .i64 k, .string t1, .bool g1, .slice a1 b1 c1, .int .i64 s1, .int .i64 mk, .int .i64 my, .int .i64 mm, .int .i64 md, .int .i64 ms, .int .i64 mn, .bool false, .int .i64 mz, .int .i64 q1.o, .int .i64 q1.s, .int .i64 q1.n] 40))) : W.cell? ⟨w.heap.size, 0, none⟩ = some (.int .i64 k))
  clear hI hw
  rcases (by omega : k = 24 ∨ k = 25 ∨ k = 26 ∨ k = 27 ∨ k = 28 ∨ k = 29 ∨ k = 30 ∨ k = 31) with rfl | rfl | rfl | rfl | rfl | rfl | rfl | rfl
  all_goals
    clear h0 h1
    go_enter Tryz.func24, Tryz.ntmps24
    go_wp2_with (go_at_call 46; refine Calls.mono (HR.out _ (bel1 (bel1 (bel1 (Below.refl _ _) _) _) _) _ _ (HN.out _ (bel1 (bel1 (Below.refl _ _) _) _).size _ (by simp))) ?_; rintro e w9 ⟨rfl, hb9⟩)
    go_ret
    exact ⟨rfl, hb9⟩
set_option maxRecDepth 100000 in
set_option maxHeartbeats 1600000 in
theorem text_mmt (k : Int) (h0 : 24 ≤ k) (h1 : k ≤ 31) (t1 : ByteArray) (g1 : Bool) (a1 : Option Addr) (b1 c1 : Nat) (s1 mk my mm md ms mn mz : Int) (q1 : Dt.Sp) {w : World} (hw : Lw w) (hI : ∀ n ∈ [my, mm, md, ms, mn, mz], I64 n) : Calls Tryz.prog 24 #[vlV k t1 g1 (.slice a1 b1 c1) s1 ⟨mk, my, mm, md, ms, mn, true, mz⟩ q1] w fun e w' => e = .returned (.string (rowT k [my, mm, md, ms, mn, mz])) ∧ Below w.heap.size w w' := by
  obtain ⟨i0, hi, hz, hzs, hby⟩ := info_n
  have HR : Hid _ := row_own k [my, mm, md, ms, mn, mz] hw (by simp) (by simp) hI
  have HN : Hid _ := fun W hW => own_new W [my, mm, md, ms, mn] w.heap.size hW (by simp)
  have HC : Hid _ := fun W (hW : Below (w.alloc (.cells #[.int .i64 k, .string t1, .bool g1, .slice a1 b1 c1, .int .i64 s1, .int .i64 mk, .int .i64 my, .int .i64 mm, .int .i64 md, .int .i64 ms, .int .i64 mn, .bool true, .int .i64 mz, .int .i64 q1.o, .int .i64 q1.s, .int .i64 q1.n] 40)).heap.size (w.alloc (.cells #[.int .i64 k, .string t1, .bool g1, .slice a1 b1 c1, .int .i64 s1, .int .i64 mk, .int .i64 my, .int .i64 mm, .int .i64 md, .int .i64 ms, .int .i64 mn, .bool true, .int .i64 mz, .int .i64 q1.o, .int .i64 q1.s, .int .i64 q1.n] 40)) W) => (row_cell ((hW.block _ (by simp)).trans (M.nw_heap w (.cells #[.int .i64 k, .string t1, .bool g1, .slice a1 b1 c1, .int .i64 s1, .int .i64 mk, .int .i64 my, .int .i64 mm, .int .i64 md, .int .i64 ms, .int .i64 mn, .bool true, .int .i64 mz, .int .i64 q1.o, .int .i64 q1.s, .int .i64 q1.n] 40))) : W.cell? ⟨w.heap.size, 0, none⟩ = some (.int .i64 k))
  clear hI hw
  rcases (by omega : k = 24 ∨ k = 25 ∨ k = 26 ∨ k = 27 ∨ k = 28 ∨ k = 29 ∨ k = 30 ∨ k = 31) with rfl | rfl | rfl | rfl | rfl | rfl | rfl | rfl
  all_goals
    clear h0 h1
    go_enter Tryz.func24, Tryz.ntmps24
    go_wp2_with (first | (at_builtin; refine wpList_append_own _ rfl _ _ 60 rfl w.heap.size 3 i0 (.int .i64 0) 1 8 Tryz.underlying60 hi hz hzs hby rfl (by decide) _ _ _ rfl (M.row_below (HN.out _ (bel1 (bel1 (Below.refl _ _) _) _).size _ (by simp)) ((Below.refl _ _).alloc (Nat.le_refl _) _)) ⟨_, 0, none⟩ 1 1 [.int .i64 mz] rfl rfl (cell_one_at _ _ _ _ (by simp)) (by simp [Value.oneCell']) (by simp [maxLen]) (by simp) (by simp; omega) ?_; intro v' w7 hown7 hgr7 _; have hb7 : Hid (Below w.heap.size w w7) := grown_bel (bel1 (bel1 (bel1 (bel1 (Below.refl w.heap.size w) _) _) _) _) hgr7 (by omega); have ho7 : Hid _ := hown7; have hx7 : w7.cell? ⟨w.heap.size, 0, none⟩ = some (.int .i64 _) := grown_cell hgr7 (by simp; omega) (by omega) (HC.out _ (bel1 (bel1 (bel1 (Below.refl _ _) _) _) _)); clear hown7 hgr7) | (go_at_call 46; refine Calls.mono (HR.out _ hb7.out _ _ ho7.out) ?_; rintro e w9 ⟨rfl, hb9⟩))
    go_ret
    exact ⟨rfl, hb9⟩
theorem text_a {w : World} {v : Value} {d : Kd} (hw : Lw w) (h : VlA w v d) (o1 : KdOk d) : Calls Tryz.prog 24 #[v] w fun e w' => e = .returned (.string (txK d)) ∧ Below w.heap.size w w' := by
  obtain ⟨a, c, rfl, hb⟩ := h
  cases d with
  | txt p t => exact textT p o1 t _ _ _ _ _ _ _ w
  | num n => exact textN ⟨#[]⟩ _ _ ⟨hb, o1.1, o1.2⟩
  | spn q => exact text_spn _ _ _ _ _ _ _ _ hw o1
  | mom k m =>
    obtain ⟨h0, h1, hl⟩ := o1
    obtain ⟨i1, i2, i3, i4, i5, i6⟩ := mo_I hl
    obtain ⟨mk, my, mm, md, ms, mn, mh, mz⟩ := m
    cases mh with
    | false =>
      have hI : ∀ n ∈ [my, mm, md, ms, mn], I64 n := by
        intro n hn
        simp only [List.mem_cons, List.not_mem_nil, or_false] at hn
        rcases hn with rfl | rfl | rfl | rfl | rfl <;> assumption
      exact text_mmf k h0 h1 _ _ _ _ _ _ _ _ _ _ _ _ _ _ hw hI
    | true =>
      have hI : ∀ n ∈ [my, mm, md, ms, mn, mz], I64 n := by
        intro n hn
        simp only [List.mem_cons, List.not_mem_nil, or_false] at hn
        rcases hn with rfl | rfl | rfl | rfl | rfl | rfl <;> assumption
      exact text_mmt k h0 h1 _ _ _ _ _ _ _ _ _ _ _ _ _ _ hw hI
end Go.Proofs.YtgaegajcejpmdaaGreatDoor
namespace Go.Proofs.YtgaegajcejpmdaaGreatDoor
open Go.RowKit
set_option linter.unusedVariables false
set_option linter.unusedSimpArgs false

theorem same_self {w : World} {v1 v2 : Value} {d : Kd} (h1 : VlA w v1 d) (h2 : VlA w v2 d) (o1 : KdOk d) : Calls Tryz.prog 26 #[v1, v2] w fun e w' => e = .returned (.bool true) ∧ Below w.heap.size w w' := by
  have h := same_p h1 h2 o1 o1
  rw [cmp_self o1] at h
  exact h
end Go.Proofs.YtgaegajcejpmdaaGreatDoor
namespace Go.Proofs.YtgaegajcejpmdaaGreatDoor
open Go.RowKit
set_option linter.unusedVariables false
set_option linter.unusedSimpArgs false

theorem dd_head : ∀ (f u : Nat), u < 10 ^ (f + 1) → 1 ≤ u → (Dc.ddS u).head? ≠ some 48
  | 0, u, h, h1 => by
    have h' : u < 10 := by simpa using h
    rw [Dc.dd_small h']
    simp
    omega
  | f + 1, u, h, h1 => by
    by_cases h' : u < 10
    · rw [Dc.dd_small h']
      simp
      omega
    · have hd : u / 10 < 10 ^ (f + 1) := by
        have : 10 ^ (f + 1 + 1) = 10 ^ (f + 1) * 10 := Nat.pow_succ ..
        omega
      have ih := dd_head f (u / 10) hd (by omega)
      have hn := (Dc.dd_ok f (u / 10) hd).2.1
      rw [Dc.dd_big h']
      cases hq : Dc.ddS (u / 10) with
      | nil => exact absurd hq hn
      | cons a l =>
        rw [hq] at ih
        exact ih
theorem map_up (l : List Int) : (l.map (· - 48)).map (· + 48) = l := by
  induction l with
  | nil => rfl
  | cons a l ih =>
    simp only [List.map_cons, ih]
    congr 1
    omega
theorem in_dd (n : Int) (h0 : -9223372036854775808 ≤ n) (h1 : n ≤ 9223372036854775807) : Dc.inS n = (decide (n < 0), (Dc.ddS n.natAbs).map (· - 48), 0) := by
  have hb : n.natAbs < 10 ^ 20 := by
    have : (10 : Nat) ^ 20 = 100000000000000000000 := by decide
    omega
  have hb' : n.natAbs < 10 ^ (19 + 1) := hb
  obtain ⟨i1, i2, i3, i4⟩ := Dc.dd_ok 19 n.natAbs hb'
  have hin := Dc.in_ok n hb
  have hl : 1 ≤ ((Dc.ddS n.natAbs).map (· - 48)).length := by
    rw [List.length_map]
    exact List.length_pos_iff.2 i2
  have hcn : Dc.CN (decide (n < 0), (Dc.ddS n.natAbs).map (· - 48), 0) := by
    refine ⟨⟨Dc.dgs_dg i1, hl, ?_, .inl rfl⟩, fun h => ?_⟩
    · by_cases hu : n.natAbs = 0
      · left
        rw [hu, Dc.dd_small (by omega)]
        rfl
      · right
        have := dd_head 19 n.natAbs hb' (by omega)
        show ((Dc.ddS n.natAbs).map (· - 48)).head? ≠ some 0
        rw [List.head?_map]
        intro q
        cases hh : (Dc.ddS n.natAbs).head? with
        | none => rw [hh] at q; cases q
        | some c =>
          rw [hh] at q this
          simp at q
          exact this (by congr 1; omega)
    · show Dc.dval ((Dc.ddS n.natAbs).map (· - 48)) ≠ 0
      rw [i3]
      have : n < 0 := by simpa using h
      omega
  refine Dc.nm_uniq (S := 0) hin.1 hcn (by rw [hin.2.1]; exact Nat.le_refl _) (Nat.le_refl _) ?_
  rw [hin.2.2]
  unfold Dc.nv
  show n = if decide (n < 0) = true then -(Dc.dval ((Dc.ddS n.natAbs).map (· - 48)) * Dc.p10 (0 - 0)) else Dc.dval ((Dc.ddS n.natAbs).map (· - 48)) * Dc.p10 (0 - 0)
  rw [i3]
  have e1 : Dc.p10 (0 - 0) = 1 := by decide
  rw [e1, Int.mul_one]
  split
  · rename_i h; have : n < 0 := by simpa using h
    omega
  · rename_i h; have : ¬ n < 0 := by simpa using h
    omega
theorem tx_itoa (n : Int) (h : I64 n) : Dc.sb (Dc.txS (Dc.inS n)) = itT n := by
  have e : Dc.txS (Dc.inS n) = Dc.bl (itT n) := by
    rw [in_dd n h.1 h.2]
    unfold itT
    rw [Dc.bl_itoa, tx_whole rfl]
    show (if decide (n < 0) = true then [45] else []) ++ ((Dc.ddS n.natAbs).map (· - 48)).map (· + 48) = _
    rw [map_up]
    unfold Lib.itoa Dc.ddS
    by_cases hn : n < 0
    · rw [if_pos hn, if_pos (by simpa using hn)]
      rfl
    · rw [if_neg hn, if_neg (by simpa using hn)]
      have : n.toNat = n.natAbs := by omega
      rw [this]
      rfl
  rw [e, Dc.sb_bl]
end Go.Proofs.YtgaegajcejpmdaaGreatDoor
namespace Go.Proofs.YtgaegajcejpmdaaGreatDoor
open Go.RowKit
set_option linter.unusedVariables false
set_option linter.unusedSimpArgs false

/-- Numbers, a blank ahead of each. -/
def flT (l : List Int) : ByteArray := ⟨(l.flatMap fun n => 32 :: Lib.itoa n).toArray⟩
theorem ba_app (a b : List UInt8) : (⟨a.toArray⟩ : ByteArray) ++ ⟨b.toArray⟩ = ⟨(a ++ b).toArray⟩ := by
  apply ByteArray.ext
  simp
theorem ba_eta (a : ByteArray) : a = ⟨a.data.toList.toArray⟩ := by
  apply ByteArray.ext
  simp
theorem flT_app (a b : List Int) : flT (a ++ b) = flT a ++ flT b := by
  unfold flT
  rw [ba_app, List.flatMap_append]
theorem flT_one (n : Int) : flT [n] = (⟨#[32]⟩ : ByteArray) ++ itT n := by
  unfold flT itT
  have := ba_app [32] (Lib.itoa n)
  rw [show (⟨#[32]⟩ : ByteArray) = ⟨[32].toArray⟩ from rfl, this]
  simp
theorem row_fl (k : Int) (l : List Int) : rowT k l = nmS k ++ flT l := by
  unfold rowT rowL flT
  rw [List.map_cons, Lib.join_cons]
  conv => rhs; rw [ba_eta (nmS k)]
  rw [ba_app]
  congr 3
  unfold Lib.joinTail
  rw [List.map_map, List.map_map, List.flatMap_def]
  rfl
theorem fl_size (l : List Int) (hI : ∀ n ∈ l, I64 n) : (flT l).size ≤ l.length * 4097 := by
  induction l with
  | nil => exact Nat.zero_le _
  | cons n l ih =>
    have h1 := ih (fun x hx => hI x (by simp [hx]))
    have h2 := it_size (hI n (by simp))
    have e : flT (n :: l) = flT [n] ++ flT l := flT_app [n] l
    rw [e, flT_one, ByteArray.size_append, ByteArray.size_append, List.length_cons, Nat.add_mul]
    have : (⟨#[32]⟩ : ByteArray).size = 1 := rfl
    omega
set_option maxRecDepth 8000 in
set_option maxHeartbeats 1000000 in
theorem fields_r (l : List Int) (b c : Nat) (w : World) (hl : l.length ≤ 10) (hI : ∀ n ∈ l, I64 n) (hb : b < w.heap.size) (hcell : ∀ (j : Nat) (hj : j < l.length), w.cell? ⟨b, j, none⟩ = some (.int .i64 l[j])) :
    Calls Tryz.prog 48 #[.slice (some ⟨b, 0, none⟩) l.length c] w fun e w' => e = .returned (.string (flT l)) ∧ Below w.heap.size w w' := by
  have HX : Hid _ := And.intro hcell (And.intro hI hl)
  clear hcell hI hl
  go_enter Tryz.func48, Tryz.ntmps48
  go_wp2_with fail
  go_loopg [3, 4] l.length (fun g v3 v4 wr => ∃ j : Nat, j + g = l.length ∧ v4 = .int .i64 (j : Int) ∧ v3 = .string (flT (l.take j)) ∧ Below w.heap.size w wr)
  case atStart => exact ⟨0, by omega, rfl, rfl, Below.refl _ _⟩
  case round =>
    obtain ⟨j, hjg, rfl, rfl, hbel⟩ := hrel
    by_cases hlt : j < l.length
    · obtain ⟨q, rfl⟩ : ∃ q, gk = q + 1 := ⟨gk - 1, by omega⟩
      have hc := (hbel.cell (p := ⟨b, j, none⟩) hb).trans (HX.out.1 j hlt)
      have hn := HX.out.2.1 l[j] (List.getElem_mem hlt)
      have hit := Dc.int_r l[j] wr hn.1 hn.2
      have hsz := fl_size (l.take j) (fun n hn => HX.out.2.1 n (List.mem_of_mem_take hn))
      have hs2 : (flT (l.take j)).size ≤ 50000 := by
        have := HX.out.2.2
        rw [List.length_take] at hsz
        have : min j l.length ≤ 10 := by omega
        have := Nat.mul_le_mul_right 4097 this
        omega
      have hs3 := it_size hn
      have et : flT (l.take (j + 1)) = flT (l.take j) ++ (⟨#[32]⟩ : ByteArray) ++ itT l[j] := by
        rw [M.take_snoc hlt, flT_app, flT_one]
        apply ByteArray.ext
        simp
      have htx := tx_itoa l[j] hn
      have hin := Dc.in_len l[j] hn.1 hn.2
      have HO : Hid _ := And.intro hbel (And.intro hit (And.intro et (And.intro htx hin)))
      clear hbel hn hit et htx hsz hin
      generalize l[j] = n at *
      generalize flT (l.take j) = s0 at *
      have hj10 : j < 10 := by have := HX.out.2.2; omega
      have e1 : (j : Int) < (l.length : Int) := by omega
      have e2 : (0 : Int) ≤ (j : Int) := by omega
      go_wp2_with (first | (go_at_call 87; refine Calls.mono HO.out.2.1 ?_; intro e w5 hq; obtain ⟨rv, rfl, hbt, _, hb5⟩ := hq; have H5 : Hid (Below wr.heap.size wr w5) := hb5; have HN5 : Hid (Dc.NmR w5 rv (Dc.inS n)) := ⟨hbt, HO.out.2.2.2.2.2, HO.out.2.2.2.2.1⟩; clear hbt hb5) | (go_at_call 47; refine Calls.mono (Dc.text_r HN5.out) ?_; rintro e w6 ⟨rfl, hb6⟩; have H6 : Hid _ := hb6; clear hb6; rw [HO.out.2.2.2.1]))
      go_roundg q
      case measure => omega
      case rel =>
        have hb5 := HO.out.1.trans (H5.out.mono HO.out.1.size)
        exact ⟨j + 1, by omega, by go_num, by rw [HO.out.2.2.1], hb5.trans (H6.out.mono hb5.size)⟩
    · have hj : j = l.length := by omega
      subst hj
      have HB : Hid _ := hbel
      clear hbel
      rw [List.take_length]
      go_wp2_with fail
      go_ret
      exact ⟨rfl, HB.out⟩
end Go.Proofs.YtgaegajcejpmdaaGreatDoor
namespace Go.Proofs.YtgaegajcejpmdaaGreatDoor
open Go.RowKit
set_option linter.unusedVariables false
set_option linter.unusedSimpArgs false

def hasP (l : List Int) : Bool := decide (0 ≤ Dc.ix l)
theorem hasP_cons (c : Int) (l : List Int) : hasP (c :: l) = if c = 46 then true else hasP l := by
  unfold hasP
  rw [Dc.ix]
  have := Dc.ix_bd l
  by_cases h : c = 46
  · rw [if_pos h, if_pos h]; rfl
  · rw [if_neg h, if_neg h]
    split
    · rename_i h2; rw [h2]
    · rw [Bool.eq_iff_iff]
      simp
      omega
theorem hasP_nil : hasP [] = false := by decide
theorem hasP_ix {l : List Int} : hasP l = false ↔ Dc.ix l = -1 := by
  unfold hasP
  have := Dc.ix_bd l
  simp
  omega
theorem bl_drop (s : ByteArray) (j : Nat) (h : j < s.size) : (Dc.bl s).drop j = ((s[j]'h).toNat : Int) :: (Dc.bl s).drop (j + 1) := by
  rw [List.drop_eq_getElem_cons (by rw [Dc.bl_len]; exact h)]
  congr 1
  simp [Dc.bl]
  rfl
set_option maxRecDepth 8000 in
set_option maxHeartbeats 1000000 in
theorem point_r (s : ByteArray) (w : World) (hs : s.size ≤ 100000) : Calls Tryz.prog 42 #[.string s] w fun e w' => e = .returned (.bool (hasP (Dc.bl s))) ∧ w' = w := by
  go_enter Tryz.func42, Tryz.ntmps42
  go_wp2_with fail
  go_loopg [3] s.size (fun q v3 wr => ∃ j : Nat, j + q = s.size ∧ v3 = .int .i64 (j : Int) ∧ hasP (Dc.bl s) = hasP ((Dc.bl s).drop j) ∧ wr = w)
  case atStart => exact ⟨0, by omega, rfl, rfl, rfl⟩
  case round =>
    obtain ⟨j, hjq, rfl, hp, rfl⟩ := hrel
    by_cases hlt : j < s.size
    · obtain ⟨q, rfl⟩ : ∃ q, gk = q + 1 := ⟨gk - 1, by omega⟩
      rw [bl_drop s j hlt, hasP_cons] at hp
      have HP : Hid _ := hp
      clear hp
      go_wp2_with fail
      · go_ret
        refine ⟨ret_b ?_, rfl⟩
        have h46 : ((s[j]'hlt).toNat : Int) = 46 := by simpa using ‹((((s[j]'hlt).toNat : Int) == 46) = true)›
        rw [HP.out, if_pos h46]
      · go_roundg q
        case measure => omega
        case rel =>
          have h46 : ¬ ((s[j]'hlt).toNat : Int) = 46 := by simpa using ‹((((s[j]'hlt).toNat : Int) == 46) = false)›
          refine ⟨j + 1, by omega, by go_num, ?_, rfl⟩
          rw [HP.out, if_neg h46]
    · have hj : j = s.size := by omega
      subst hj
      rw [List.drop_eq_nil_of_le (by rw [Dc.bl_len]; exact Nat.le_refl _), hasP_nil] at hp
      have HP : Hid _ := hp
      clear hp
      go_wp2_with fail
      go_ret
      exact ⟨ret_b HP.out.symm, rfl⟩
end Go.Proofs.YtgaegajcejpmdaaGreatDoor
namespace Go.Proofs.YtgaegajcejpmdaaGreatDoor
open Go.RowKit
set_option linter.unusedVariables false
set_option linter.unusedSimpArgs false

theorem res1d {W : World} {X : Nat} {cs : Array Value} {fn : Func} {p : Tmp} {tmps : Array Value} (hf : fn.results = #[.cell p 43]) (hp : tmps.getD p undef = .pointer (some ⟨X, 0, none⟩)) (h : W.heap[X]? = some (.cells cs 43 (0, 0))) (hs : cs.size = 3) :
    (results fn tmps).run Tryz.prog W = .ok (.agg cs) W := by
  have hl := run_loadVar_row (P := Tryz.prog) W X 43 43 cs (0, 0) _ h Tryz.underlying43 rfl (by rw [hs]; kernel_rfl)
  have hp' : tmps[p]?.getD undef = .pointer (some ⟨X, 0, none⟩) := by simpa using hp
  simp [results, hf, hp', asAddr, hl]
set_option maxRecDepth 8000 in
set_option maxHeartbeats 1000000 in
theorem bound_r {n : Dc.Nm} (s : ByteArray) (w : World) (hs : s.size ≤ 100) (hp : Dc.parS (Dc.bl s) = .ok n) : Calls Tryz.prog 71 #[.string s] w fun e w' => ∃ rv, e = .returned (Dc.nmV n.1 rv n.2.2) ∧ Below w.heap.size w w' ∧ Dc.NmR w' rv n := by
  have hcn := Dc.par_ok hp
  have hx := M.nw_heap w (.cells #[.bool false, .slice none 0 0, .int .i64 0] 43)
  have hb0 : Below w.heap.size w (w.alloc (.cells #[.bool false, .slice none 0 0, .int .i64 0] 43)) := (Below.refl _ _).alloc (Nat.le_refl _) _
  obtain ⟨U, hU⟩ : ∃ U, w.alloc (.cells #[.bool false, .slice none 0 0, .int .i64 0] 43) = U := ⟨_, rfl⟩
  rw [hU] at hx hb0
  have HX : Hid _ := And.intro hx (And.intro hb0 hcn)
  clear hx hb0 hcn
  go_enter Tryz.func71, Tryz.ntmps71
  go_upto_region 1 with fail
  try rw [hU]
  clear hU
  go_upto_region 2 with (first | (go_at_call 41; refine Calls.mono (Dc.parse_r s _ (by unfold maxLen; omega)) ?_; intro e w1 hq; unfold Dc.PaP at hq; rw [hp] at hq; obtain ⟨hb1, rv, rfl, hbt⟩ := hq; obtain ⟨va, vc, rfl, _⟩ := hbt.form; have H1 : Hid _ := And.intro hb1 hbt; clear hb1 hbt) | (refine wpList_store_row rfl 43 _ _ rfl _ _ rfl rfl 43 _ (M.nw_heap _ _) (by kernel_rfl) rfl (by simp [Value.oneCell']) ?_; rw [alloc_setRow]))
  have hyV := M.nw_heap w1 (.cells #[.bool n.1, .slice va n.2.1.length vc, .int .i64 n.2.2] 43)
  have hbV : Below w1.heap.size w1 (w1.alloc (.cells #[.bool n.1, .slice va n.2.1.length vc, .int .i64 n.2.2] 43)) := (Below.refl _ _).alloc (Nat.le_refl _) _
  obtain ⟨V, hVV⟩ : ∃ X, w1.alloc (.cells #[.bool n.1, .slice va n.2.1.length vc, .int .i64 n.2.2] 43) = X := ⟨_, rfl⟩
  rw [hVV] at hyV hbV ⊢
  have hUV := H1.out.1.trans (hbV.mono H1.out.1.size)
  have hxV := (hUV.block _ (Dc.lt_of HX.out.1)).trans HX.out.1
  have hset := setRow_heap _ w.heap.size _ #[.bool n.1, .slice va n.2.1.length vc, .int .i64 n.2.2] _ _ hxV
  have hbs := below_setRow (HX.out.2.1.trans (hUV.mono HX.out.2.1.size)) (Nat.le_refl w.heap.size) #[.bool n.1, .slice va n.2.1.length vc, .int .i64 n.2.2]
  have hN : Dc.NmR (V.setRow w.heap.size #[.bool n.1, .slice va n.2.1.length vc, .int .i64 n.2.2]) (.slice va n.2.1.length vc) n := ⟨((H1.out.2.below hbV).kept (by simp [World.setRow]) (fun k hk => setRow_other V w.heap.size k _ hk) ((H1.out.2.below hbV).apart hxV)), HX.out.2.2.1, HX.out.2.2.2.2.1⟩
  have HF : Hid _ := And.intro hset (And.intro hbs hN)
  clear hset hbs hN hUV hbV hVV
  generalize w1.heap.size = Y at *
  go_wp2_with (first | (refine wpList_load_row rfl 43 _ rfl Y rfl 43 _ (0, 0) _ hyV Tryz.underlying43 rfl (by kernel_rfl) ?_) | (refine wpList_store_row rfl 43 _ _ rfl w.heap.size _ rfl rfl 43 _ hxV (by kernel_rfl) rfl (by simp [Value.oneCell']) ?_))
  exact bodyPost_ret (v := Dc.nmV n.1 (.slice va n.2.1.length vc) n.2.2) (by refine (res1d (X := w.heap.size) Tryz.results71 ?_ HF.out.1 rfl).trans ?_ <;> rfl) rfl ⟨_, rfl, HF.out.2.1, HF.out.2.2⟩
end Go.Proofs.YtgaegajcejpmdaaGreatDoor
namespace Go.Proofs.YtgaegajcejpmdaaGreatDoor
open Go.RowKit
set_option linter.unusedVariables false
set_option linter.unusedSimpArgs false

theorem rng3 {W : World} {X : Nat} {a b c : Value} {t : TypeId} (h : W.heap[X]? = some (.cells #[a, b, c] t (0, 0))) : W.rangeAt X 0 [a, b, c] := rng0 (cs := [a, b, c]) h
def loT : Array Value := #[.string ⟨#[]⟩, .string ⟨#[]⟩, .string ⟨#[]⟩, .string ⟨#[]⟩, .string ⟨#[]⟩, .string ⟨#[]⟩, .string ⟨#[]⟩, .string ⟨#[]⟩, .string ⟨#[]⟩, .string ⟨#[]⟩, .string ⟨#[]⟩, .string ⟨#[]⟩, .string ⟨#[]⟩, .string ⟨#[]⟩, .string ⟨#[48]⟩, .string ⟨#[49]⟩, .string ⟨#[45, 57, 50, 50, 51, 51, 55, 50, 48, 51, 54, 56, 53, 52, 55, 55, 53, 56, 48, 56]⟩, .string ⟨#[45, 50, 49, 52, 55, 52, 56, 51, 54, 52, 56]⟩, .string ⟨#[45, 51, 50, 55, 54, 56]⟩, .string ⟨#[45, 49, 50, 56]⟩, .string ⟨#[48]⟩, .string ⟨#[48]⟩, .string ⟨#[48]⟩, .string ⟨#[48]⟩]
def hiT : Array Value := #[.string ⟨#[]⟩, .string ⟨#[]⟩, .string ⟨#[]⟩, .string ⟨#[]⟩, .string ⟨#[]⟩, .string ⟨#[]⟩, .string ⟨#[]⟩, .string ⟨#[]⟩, .string ⟨#[]⟩, .string ⟨#[]⟩, .string ⟨#[]⟩, .string ⟨#[]⟩, .string ⟨#[48]⟩, .string ⟨#[45, 49]⟩, .string ⟨#[]⟩, .string ⟨#[]⟩, .string ⟨#[57, 50, 50, 51, 51, 55, 50, 48, 51, 54, 56, 53, 52, 55, 55, 53, 56, 48, 55]⟩, .string ⟨#[50, 49, 52, 55, 52, 56, 51, 54, 52, 55]⟩, .string ⟨#[51, 50, 55, 54, 55]⟩, .string ⟨#[49, 50, 55]⟩, .string ⟨#[49, 56, 52, 52, 54, 55, 52, 52, 48, 55, 51, 55, 48, 57, 53, 53, 49, 54, 49, 53]⟩, .string ⟨#[52, 50, 57, 52, 57, 54, 55, 50, 57, 53]⟩, .string ⟨#[54, 53, 53, 51, 53]⟩, .string ⟨#[50, 53, 53]⟩]
theorem bel1' {w W : World} (h : Below w.heap.size w W) (o : Obj) : Below w.heap.size w (W.alloc o) := h.alloc h.size o
theorem bel3 (w : World) (a b c : Obj) : Below w.heap.size w (((w.alloc a).alloc b).alloc c) := bel1' (bel1' (bel1' (Below.refl _ _) _) _) _
theorem blocks3 (w : World) (a b c : Obj) : (((w.alloc a).alloc b).alloc c).heap[w.heap.size]? = some a ∧ (((w.alloc a).alloc b).alloc c).heap[w.heap.size + 1]? = some b ∧ (((w.alloc a).alloc b).alloc c).heap[w.heap.size + 1 + 1]? = some c := by
  obtain ⟨h1, h2, h3⟩ := box_two w a b
  have hs : ((w.alloc a).alloc b).heap.size = w.heap.size + 1 + 1 := by simp
  have h4 := M.nw_heap ((w.alloc a).alloc b) c
  have hb : Below ((w.alloc a).alloc b).heap.size ((w.alloc a).alloc b) (((w.alloc a).alloc b).alloc c) := (Below.refl _ _).alloc (Nat.le_refl _) _
  rw [hs] at h4
  exact ⟨(hb.block _ (by rw [hs]; omega)).trans h1, (hb.block _ (by rw [hs]; omega)).trans h2, h4⟩
theorem cmp_whole {n b : Dc.Nm} (h : Dc.CN n) (h0 : n.2.2 = 0) (hb : Dc.CN b) (hb0 : b.2.2 = 0) : (Dc.cmpS n b < 0 ↔ Dc.nv n 0 < Dc.nv b 0) ∧ (Dc.cmpS n b ≤ 0 ↔ Dc.nv n 0 ≤ Dc.nv b 0) := by
  have := Dc.cmp_at (S := 0) h hb (by omega) (by omega)
  omega
set_option maxRecDepth 100000 in
set_option maxHeartbeats 6400000 in
theorem within_nn {w : World} {v : Value} {n : Dc.Nm} (hn : Dc.NmR w v n) (kn : Nat) (hk : kn < 24) (lo hi : ByteArray) (hlo : loT[kn]? = some (.string lo)) (hhi : hiT[kn]? = some (.string hi)) (l2 : lo.toList = []) (h2 : hi.toList = []) : Calls Tryz.prog 43 #[.int .i64 (kn : Int), Dc.nmV n.1 v n.2.2] w fun e w' => e = .returned (.bool (true && true)) ∧ Below w.heap.size w w' := by
  obtain ⟨va, vc, rfl, _⟩ := hn.bt.form
  have e0 : (0 : Int) ≤ (kn : Int) := by omega
  have e1 : (kn : Int) < 24 := by omega
  have nlo : (lo.toList == []) = true := by simpa using l2
  have mlo : (lo.toList != []) = false := by simpa using l2
  have nhi : (hi.toList == []) = true := by simpa using h2
  have mhi : (hi.toList != []) = false := by simpa using h2
  have Hlo : Hid _ := hlo
  have Hhi : Hid _ := hhi
  have hb1 : Below w.heap.size w (((w.alloc (.cells #[.bool n.1, .slice va n.2.1.length vc, .int .i64 n.2.2] 43)).alloc (.cells loT 9)).alloc (.cells hiT 9)) := bel3 w _ _ _
  have hS := blocks3 w (.cells #[.bool n.1, .slice va n.2.1.length vc, .int .i64 n.2.2] 43) (.cells loT 9) (.cells hiT 9)
  obtain ⟨U, hU⟩ : ∃ U, ((w.alloc (.cells #[.bool n.1, .slice va n.2.1.length vc, .int .i64 n.2.2] 43)).alloc (.cells loT 9)).alloc (.cells hiT 9) = U := ⟨_, rfl⟩
  rw [hU] at hb1 hS
  have HN : Hid _ := fun W (hW : Below U.heap.size U W) => hn.below (hb1.trans (hW.mono hb1.size))
  have HK : Hid (∀ W, Below U.heap.size U W → _ ∧ _ ∧ _) := fun W hW => And.intro ((hW.block _ (Dc.lt_of hS.1)).trans hS.1) (And.intro ((hW.block _ (Dc.lt_of hS.2.1)).trans hS.2.1) ((hW.block _ (Dc.lt_of hS.2.2)).trans hS.2.2))
  have HU : Hid _ := hb1
  clear hb1 hS hn hlo hhi l2 h2
  go_enter Tryz.func43, Tryz.ntmps43
  go_upto_region 3 with fail
  try rw [show ((w.alloc (.cells #[.bool n.1, .slice va n.2.1.length vc, .int .i64 n.2.2] 43)).alloc (.cells #[.string ⟨#[]⟩, .string ⟨#[]⟩, .string ⟨#[]⟩, .string ⟨#[]⟩, .string ⟨#[]⟩, .string ⟨#[]⟩, .string ⟨#[]⟩, .string ⟨#[]⟩, .string ⟨#[]⟩, .string ⟨#[]⟩, .string ⟨#[]⟩, .string ⟨#[]⟩, .string ⟨#[]⟩, .string ⟨#[]⟩, .string ⟨#[48]⟩, .string ⟨#[49]⟩, .string ⟨#[45, 57, 50, 50, 51, 51, 55, 50, 48, 51, 54, 56, 53, 52, 55, 55, 53, 56, 48, 56]⟩, .string ⟨#[45, 50, 49, 52, 55, 52, 56, 51, 54, 52, 56]⟩, .string ⟨#[45, 51, 50, 55, 54, 56]⟩, .string ⟨#[45, 49, 50, 56]⟩, .string ⟨#[48]⟩, .string ⟨#[48]⟩, .string ⟨#[48]⟩, .string ⟨#[48]⟩] 9)).alloc (.cells #[.string ⟨#[]⟩, .string ⟨#[]⟩, .string ⟨#[]⟩, .string ⟨#[]⟩, .string ⟨#[]⟩, .string ⟨#[]⟩, .string ⟨#[]⟩, .string ⟨#[]⟩, .string ⟨#[]⟩, .string ⟨#[]⟩, .string ⟨#[]⟩, .string ⟨#[]⟩, .string ⟨#[48]⟩, .string ⟨#[45, 49]⟩, .string ⟨#[]⟩, .string ⟨#[]⟩, .string ⟨#[57, 50, 50, 51, 51, 55, 50, 48, 51, 54, 56, 53, 52, 55, 55, 53, 56, 48, 55]⟩, .string ⟨#[50, 49, 52, 55, 52, 56, 51, 54, 52, 55]⟩, .string ⟨#[51, 50, 55, 54, 55]⟩, .string ⟨#[49, 50, 55]⟩, .string ⟨#[49, 56, 52, 52, 54, 55, 52, 52, 48, 55, 51, 55, 48, 57, 53, 53, 49, 54, 49, 53]⟩, .string ⟨#[52, 50, 57, 52, 57, 54, 55, 50, 57, 53]⟩, .string ⟨#[54, 53, 53, 51, 53]⟩, .string ⟨#[50, 53, 53]⟩] 9) = U from hU]
  clear hU
  have HB : Hid (Below U.heap.size U U.drew) := Dc.Below.drewN' 1
  refine wp_region_held_drew (S := fun W => W.heap[w.heap.size]? = some (.cells #[.bool n.1, .slice va n.2.1.length vc, .int .i64 n.2.2] 43 (0, 0)) ∧ W.heap[w.heap.size + 1]? = some (.cells loT 9 (0, 0)) ∧ W.heap[w.heap.size + 1 + 1]? = some (.cells hiT 9 (0, 0))) (by kernel_rfl) (HK.out _ HB.out) (fun hHeld => ?_)
  refine wpAnyH_take (i := 0) (v := (.slice (some ⟨w.heap.size + 1, 0, none⟩) 24 24)) rfl (by kernel_rfl) (by kernel_rfl) (by kernel_rfl) (fun _ _ _ h => h) (Or.inl ⟨by kernel_rfl, fun w' hSw => (by go_simp)⟩) (by assumption) ?_
  try simp only [Act.put, List.getElem_toArray, List.getElem_cons_zero, List.getElem_cons_succ, List.setIfInBounds_toArray, List.set_cons_zero, List.set_cons_succ]
  refine wpAnyH_take (i := 1) (v := (.int .i64 (kn : Int))) rfl (by kernel_rfl) (by kernel_rfl) (by kernel_rfl) (fun _ _ _ h => h) (Or.inl ⟨by kernel_rfl, fun w' hSw => (by go_simp)⟩) (by assumption) ?_
  try simp only [Act.put, List.getElem_toArray, List.getElem_cons_zero, List.getElem_cons_succ, List.setIfInBounds_toArray, List.set_cons_zero, List.set_cons_succ]
  refine wpAnyH_take (i := 2) (v := (.pointer (some ⟨w.heap.size + 1, kn, none⟩))) rfl (by kernel_rfl) (by kernel_rfl) (by kernel_rfl) (fun _ _ _ h => h) (Or.inl ⟨by kernel_rfl, fun w' hSw => (by go_simp)⟩) (by assumption) ?_
  try simp only [Act.put, List.getElem_toArray, List.getElem_cons_zero, List.getElem_cons_succ, List.setIfInBounds_toArray, List.set_cons_zero, List.set_cons_succ]
  refine wpAnyH_take (i := 3) (v := (.string lo)) rfl (by kernel_rfl) (by kernel_rfl) (by kernel_rfl) (fun _ _ _ h => h) (Or.inl ⟨by kernel_rfl, fun w' hSw => (by have hc : w'.cell? ⟨w.heap.size + 1, kn, none⟩ = some (.string lo) := (row_cell hSw.2.1).trans Hlo.out; go_simp)⟩) (by assumption) ?_
  try simp only [Act.put, List.getElem_toArray, List.getElem_cons_zero, List.getElem_cons_succ, List.setIfInBounds_toArray, List.set_cons_zero, List.set_cons_succ]
  refine wpAnyH_take (i := 4) (v := (.bool false)) rfl (by kernel_rfl) (by kernel_rfl) (by kernel_rfl) (fun _ _ _ h => h) (Or.inl ⟨by kernel_rfl, fun w' hSw => (by go_simp)⟩) (by assumption) ?_
  try simp only [Act.put, List.getElem_toArray, List.getElem_cons_zero, List.getElem_cons_succ, List.setIfInBounds_toArray, List.set_cons_zero, List.set_cons_succ]
  refine wpAnyH_take (i := 5) (v := (.bool false)) rfl (by kernel_rfl) (by kernel_rfl) (by kernel_rfl) (fun _ _ _ h => h) (Or.inl ⟨by kernel_rfl, fun w' hSw => (by go_simp)⟩) (by assumption) ?_
  try simp only [Act.put, List.getElem_toArray, List.getElem_cons_zero, List.getElem_cons_succ, List.setIfInBounds_toArray, List.set_cons_zero, List.set_cons_succ]
  refine wpAnyH_take (i := 6) (v := (undef)) rfl (by kernel_rfl) (by kernel_rfl) (by kernel_rfl) (fun _ _ _ h => h) (Or.inr ⟨by kernel_rfl, rfl⟩) (by assumption) ?_
  try simp only [Act.put, List.getElem_toArray, List.getElem_cons_zero, List.getElem_cons_succ, List.setIfInBounds_toArray, List.set_cons_zero, List.set_cons_succ]
  refine wpAnyH_take (i := 7) (v := (undef)) rfl (by kernel_rfl) (by kernel_rfl) (by kernel_rfl) (fun _ _ _ h => h) (Or.inr ⟨by kernel_rfl, rfl⟩) (by assumption) ?_
  try simp only [Act.put, List.getElem_toArray, List.getElem_cons_zero, List.getElem_cons_succ, List.setIfInBounds_toArray, List.set_cons_zero, List.set_cons_succ]
  refine wpAnyH_take (i := 8) (v := (undef)) rfl (by kernel_rfl) (by kernel_rfl) (by kernel_rfl) (fun _ _ _ h => h) (Or.inr ⟨by kernel_rfl, rfl⟩) (by assumption) ?_
  try simp only [Act.put, List.getElem_toArray, List.getElem_cons_zero, List.getElem_cons_succ, List.setIfInBounds_toArray, List.set_cons_zero, List.set_cons_succ]
  refine wpAnyH_take (i := 9) (v := (undef)) rfl (by kernel_rfl) (by kernel_rfl) (by kernel_rfl) (fun _ _ _ h => h) (Or.inr ⟨by kernel_rfl, rfl⟩) (by assumption) ?_
  try simp only [Act.put, List.getElem_toArray, List.getElem_cons_zero, List.getElem_cons_succ, List.setIfInBounds_toArray, List.set_cons_zero, List.set_cons_succ]
  refine wpAnyH_take (i := 10) (v := (undef)) rfl (by kernel_rfl) (by kernel_rfl) (by kernel_rfl) (fun _ _ _ h => h) (Or.inr ⟨by kernel_rfl, rfl⟩) (by assumption) ?_
  try simp only [Act.put, List.getElem_toArray, List.getElem_cons_zero, List.getElem_cons_succ, List.setIfInBounds_toArray, List.set_cons_zero, List.set_cons_succ]
  refine wpAnyH_take (i := 11) (v := (undef)) rfl (by kernel_rfl) (by kernel_rfl) (by kernel_rfl) (fun _ _ _ h => h) (Or.inr ⟨by kernel_rfl, rfl⟩) (by assumption) ?_
  try simp only [Act.put, List.getElem_toArray, List.getElem_cons_zero, List.getElem_cons_succ, List.setIfInBounds_toArray, List.set_cons_zero, List.set_cons_succ]
  refine wpAnyH_take (i := 12) (v := (undef)) rfl (by kernel_rfl) (by kernel_rfl) (by kernel_rfl) (fun _ _ _ h => h) (Or.inr ⟨by kernel_rfl, rfl⟩) (by assumption) ?_
  try simp only [Act.put, List.getElem_toArray, List.getElem_cons_zero, List.getElem_cons_succ, List.setIfInBounds_toArray, List.set_cons_zero, List.set_cons_succ]
  refine wpAnyH_take (i := 13) (v := (undef)) rfl (by kernel_rfl) (by kernel_rfl) (by kernel_rfl) (fun _ _ _ h => h) (Or.inr ⟨by kernel_rfl, rfl⟩) (by assumption) ?_
  try simp only [Act.put, List.getElem_toArray, List.getElem_cons_zero, List.getElem_cons_succ, List.setIfInBounds_toArray, List.set_cons_zero, List.set_cons_succ]
  refine wpAnyH_take (i := 14) (v := (.bool false)) rfl (by kernel_rfl) (by kernel_rfl) (by kernel_rfl) (fun _ _ _ h => h) (Or.inl ⟨by kernel_rfl, fun w' hSw => (by go_simp)⟩) (by assumption) ?_
  try simp only [Act.put, List.getElem_toArray, List.getElem_cons_zero, List.getElem_cons_succ, List.setIfInBounds_toArray, List.set_cons_zero, List.set_cons_succ]
  refine wpAnyH_done (by kernel_rfl) ?_ _
  clear hHeld
  go_upto_region 5 with fail
  have HB1 : Hid _ := HB.out
  clear HB
  have HB : Hid (Below U.heap.size U U.drew.drew) := HB1.out.trans ((Dc.Below.drewN' 1).mono HB1.out.size)
  refine wp_region_held_drew (S := fun W => W.heap[w.heap.size]? = some (.cells #[.bool n.1, .slice va n.2.1.length vc, .int .i64 n.2.2] 43 (0, 0)) ∧ W.heap[w.heap.size + 1]? = some (.cells loT 9 (0, 0)) ∧ W.heap[w.heap.size + 1 + 1]? = some (.cells hiT 9 (0, 0))) (by kernel_rfl) (HK.out _ HB.out) (fun hHeld => ?_)
  refine wpAnyH_take (i := 0) (v := (.slice (some ⟨w.heap.size + 1 + 1, 0, none⟩) 24 24)) rfl (by kernel_rfl) (by kernel_rfl) (by kernel_rfl) (fun _ _ _ h => h) (Or.inl ⟨by kernel_rfl, fun w' hSw => (by go_simp)⟩) (by assumption) ?_
  try simp only [Act.put, List.getElem_toArray, List.getElem_cons_zero, List.getElem_cons_succ, List.setIfInBounds_toArray, List.set_cons_zero, List.set_cons_succ]
  refine wpAnyH_take (i := 1) (v := (.int .i64 (kn : Int))) rfl (by kernel_rfl) (by kernel_rfl) (by kernel_rfl) (fun _ _ _ h => h) (Or.inl ⟨by kernel_rfl, fun w' hSw => (by go_simp)⟩) (by assumption) ?_
  try simp only [Act.put, List.getElem_toArray, List.getElem_cons_zero, List.getElem_cons_succ, List.setIfInBounds_toArray, List.set_cons_zero, List.set_cons_succ]
  refine wpAnyH_take (i := 2) (v := (.pointer (some ⟨w.heap.size + 1 + 1, kn, none⟩))) rfl (by kernel_rfl) (by kernel_rfl) (by kernel_rfl) (fun _ _ _ h => h) (Or.inl ⟨by kernel_rfl, fun w' hSw => (by go_simp)⟩) (by assumption) ?_
  try simp only [Act.put, List.getElem_toArray, List.getElem_cons_zero, List.getElem_cons_succ, List.setIfInBounds_toArray, List.set_cons_zero, List.set_cons_succ]
  refine wpAnyH_take (i := 3) (v := (.string hi)) rfl (by kernel_rfl) (by kernel_rfl) (by kernel_rfl) (fun _ _ _ h => h) (Or.inl ⟨by kernel_rfl, fun w' hSw => (by have hc : w'.cell? ⟨w.heap.size + 1 + 1, kn, none⟩ = some (.string hi) := (row_cell hSw.2.2).trans Hhi.out; go_simp)⟩) (by assumption) ?_
  try simp only [Act.put, List.getElem_toArray, List.getElem_cons_zero, List.getElem_cons_succ, List.setIfInBounds_toArray, List.set_cons_zero, List.set_cons_succ]
  refine wpAnyH_take (i := 4) (v := (.bool true)) rfl (by kernel_rfl) (by kernel_rfl) (by kernel_rfl) (fun _ _ _ h => h) (Or.inl ⟨by kernel_rfl, fun w' hSw => (by go_simp)⟩) (by assumption) ?_
  try simp only [Act.put, List.getElem_toArray, List.getElem_cons_zero, List.getElem_cons_succ, List.setIfInBounds_toArray, List.set_cons_zero, List.set_cons_succ]
  refine wpAnyH_take (i := 5) (v := (.bool true)) rfl (by kernel_rfl) (by kernel_rfl) (by kernel_rfl) (fun _ _ _ h => h) (Or.inl ⟨by kernel_rfl, fun w' hSw => (by go_simp)⟩) (by assumption) ?_
  try simp only [Act.put, List.getElem_toArray, List.getElem_cons_zero, List.getElem_cons_succ, List.setIfInBounds_toArray, List.set_cons_zero, List.set_cons_succ]
  refine wpAnyH_take (i := 6) (v := (undef)) rfl (by kernel_rfl) (by kernel_rfl) (by kernel_rfl) (fun _ _ _ h => h) (Or.inr ⟨by kernel_rfl, rfl⟩) (by assumption) ?_
  try simp only [Act.put, List.getElem_toArray, List.getElem_cons_zero, List.getElem_cons_succ, List.setIfInBounds_toArray, List.set_cons_zero, List.set_cons_succ]
  refine wpAnyH_take (i := 7) (v := (undef)) rfl (by kernel_rfl) (by kernel_rfl) (by kernel_rfl) (fun _ _ _ h => h) (Or.inr ⟨by kernel_rfl, rfl⟩) (by assumption) ?_
  try simp only [Act.put, List.getElem_toArray, List.getElem_cons_zero, List.getElem_cons_succ, List.setIfInBounds_toArray, List.set_cons_zero, List.set_cons_succ]
  refine wpAnyH_take (i := 8) (v := (undef)) rfl (by kernel_rfl) (by kernel_rfl) (by kernel_rfl) (fun _ _ _ h => h) (Or.inr ⟨by kernel_rfl, rfl⟩) (by assumption) ?_
  try simp only [Act.put, List.getElem_toArray, List.getElem_cons_zero, List.getElem_cons_succ, List.setIfInBounds_toArray, List.set_cons_zero, List.set_cons_succ]
  refine wpAnyH_take (i := 9) (v := (undef)) rfl (by kernel_rfl) (by kernel_rfl) (by kernel_rfl) (fun _ _ _ h => h) (Or.inr ⟨by kernel_rfl, rfl⟩) (by assumption) ?_
  try simp only [Act.put, List.getElem_toArray, List.getElem_cons_zero, List.getElem_cons_succ, List.setIfInBounds_toArray, List.set_cons_zero, List.set_cons_succ]
  refine wpAnyH_take (i := 10) (v := (undef)) rfl (by kernel_rfl) (by kernel_rfl) (by kernel_rfl) (fun _ _ _ h => h) (Or.inr ⟨by kernel_rfl, rfl⟩) (by assumption) ?_
  try simp only [Act.put, List.getElem_toArray, List.getElem_cons_zero, List.getElem_cons_succ, List.setIfInBounds_toArray, List.set_cons_zero, List.set_cons_succ]
  refine wpAnyH_take (i := 11) (v := (undef)) rfl (by kernel_rfl) (by kernel_rfl) (by kernel_rfl) (fun _ _ _ h => h) (Or.inr ⟨by kernel_rfl, rfl⟩) (by assumption) ?_
  try simp only [Act.put, List.getElem_toArray, List.getElem_cons_zero, List.getElem_cons_succ, List.setIfInBounds_toArray, List.set_cons_zero, List.set_cons_succ]
  refine wpAnyH_take (i := 12) (v := (undef)) rfl (by kernel_rfl) (by kernel_rfl) (by kernel_rfl) (fun _ _ _ h => h) (Or.inr ⟨by kernel_rfl, rfl⟩) (by assumption) ?_
  try simp only [Act.put, List.getElem_toArray, List.getElem_cons_zero, List.getElem_cons_succ, List.setIfInBounds_toArray, List.set_cons_zero, List.set_cons_succ]
  refine wpAnyH_take (i := 13) (v := (undef)) rfl (by kernel_rfl) (by kernel_rfl) (by kernel_rfl) (fun _ _ _ h => h) (Or.inr ⟨by kernel_rfl, rfl⟩) (by assumption) ?_
  try simp only [Act.put, List.getElem_toArray, List.getElem_cons_zero, List.getElem_cons_succ, List.setIfInBounds_toArray, List.set_cons_zero, List.set_cons_succ]
  refine wpAnyH_take (i := 14) (v := (.bool true)) rfl (by kernel_rfl) (by kernel_rfl) (by kernel_rfl) (fun _ _ _ h => h) (Or.inl ⟨by kernel_rfl, fun w' hSw => (by go_simp)⟩) (by assumption) ?_
  try simp only [Act.put, List.getElem_toArray, List.getElem_cons_zero, List.getElem_cons_succ, List.setIfInBounds_toArray, List.set_cons_zero, List.set_cons_succ]
  refine wpAnyH_take (i := 15) (v := (.bool true)) rfl (by kernel_rfl) (by kernel_rfl) (by kernel_rfl) (fun _ _ _ h => h) (Or.inl ⟨by kernel_rfl, fun w' hSw => (by go_simp)⟩) (by assumption) ?_
  try simp only [Act.put, List.getElem_toArray, List.getElem_cons_zero, List.getElem_cons_succ, List.setIfInBounds_toArray, List.set_cons_zero, List.set_cons_succ]
  refine wpAnyH_done (by kernel_rfl) ?_ _
  clear hHeld
  go_wp2_with fail
  go_ret
  exact ⟨rfl, HU.out.trans (HB.out.mono HU.out.size)⟩
set_option maxRecDepth 100000 in
set_option maxHeartbeats 6400000 in
theorem within_ns {w : World} {v : Value} {n : Dc.Nm} (hn : Dc.NmR w v n) (kn : Nat) (hk : kn < 24) (lo hi : ByteArray) (hlo : loT[kn]? = some (.string lo)) (hhi : hiT[kn]? = some (.string hi)) (l2 : lo.toList = []) {b2 : Dc.Nm} (h1 : hi.size ≤ 100) (h2 : hi.toList ≠ []) (p2 : Dc.parS (Dc.bl hi) = .ok b2) : Calls Tryz.prog 43 #[.int .i64 (kn : Int), Dc.nmV n.1 v n.2.2] w fun e w' => e = .returned (.bool (true && decide (Dc.cmpS n b2 ≤ 0))) ∧ Below w.heap.size w w' := by
  obtain ⟨va, vc, rfl, _⟩ := hn.bt.form
  have e0 : (0 : Int) ≤ (kn : Int) := by omega
  have e1 : (kn : Int) < 24 := by omega
  have nlo : (lo.toList == []) = true := by simpa using l2
  have mlo : (lo.toList != []) = false := by simpa using l2
  have nhi : (hi.toList == []) = false := by simpa using h2
  have mhi : (hi.toList != []) = true := by simpa using h2
  have Hlo : Hid _ := hlo
  have Hhi : Hid _ := hhi
  have HPhi : Hid _ := fun W => bound_r (n := b2) hi W h1 p2
  have hb1 : Below w.heap.size w (((w.alloc (.cells #[.bool n.1, .slice va n.2.1.length vc, .int .i64 n.2.2] 43)).alloc (.cells loT 9)).alloc (.cells hiT 9)) := bel3 w _ _ _
  have hS := blocks3 w (.cells #[.bool n.1, .slice va n.2.1.length vc, .int .i64 n.2.2] 43) (.cells loT 9) (.cells hiT 9)
  obtain ⟨U, hU⟩ : ∃ U, ((w.alloc (.cells #[.bool n.1, .slice va n.2.1.length vc, .int .i64 n.2.2] 43)).alloc (.cells loT 9)).alloc (.cells hiT 9) = U := ⟨_, rfl⟩
  rw [hU] at hb1 hS
  have HN : Hid _ := fun W (hW : Below U.heap.size U W) => hn.below (hb1.trans (hW.mono hb1.size))
  have HK : Hid (∀ W, Below U.heap.size U W → _ ∧ _ ∧ _) := fun W hW => And.intro ((hW.block _ (Dc.lt_of hS.1)).trans hS.1) (And.intro ((hW.block _ (Dc.lt_of hS.2.1)).trans hS.2.1) ((hW.block _ (Dc.lt_of hS.2.2)).trans hS.2.2))
  have HU : Hid _ := hb1
  clear hb1 hS hn hlo hhi l2 h2 h1 p2
  go_enter Tryz.func43, Tryz.ntmps43
  go_upto_region 3 with fail
  try rw [show ((w.alloc (.cells #[.bool n.1, .slice va n.2.1.length vc, .int .i64 n.2.2] 43)).alloc (.cells #[.string ⟨#[]⟩, .string ⟨#[]⟩, .string ⟨#[]⟩, .string ⟨#[]⟩, .string ⟨#[]⟩, .string ⟨#[]⟩, .string ⟨#[]⟩, .string ⟨#[]⟩, .string ⟨#[]⟩, .string ⟨#[]⟩, .string ⟨#[]⟩, .string ⟨#[]⟩, .string ⟨#[]⟩, .string ⟨#[]⟩, .string ⟨#[48]⟩, .string ⟨#[49]⟩, .string ⟨#[45, 57, 50, 50, 51, 51, 55, 50, 48, 51, 54, 56, 53, 52, 55, 55, 53, 56, 48, 56]⟩, .string ⟨#[45, 50, 49, 52, 55, 52, 56, 51, 54, 52, 56]⟩, .string ⟨#[45, 51, 50, 55, 54, 56]⟩, .string ⟨#[45, 49, 50, 56]⟩, .string ⟨#[48]⟩, .string ⟨#[48]⟩, .string ⟨#[48]⟩, .string ⟨#[48]⟩] 9)).alloc (.cells #[.string ⟨#[]⟩, .string ⟨#[]⟩, .string ⟨#[]⟩, .string ⟨#[]⟩, .string ⟨#[]⟩, .string ⟨#[]⟩, .string ⟨#[]⟩, .string ⟨#[]⟩, .string ⟨#[]⟩, .string ⟨#[]⟩, .string ⟨#[]⟩, .string ⟨#[]⟩, .string ⟨#[48]⟩, .string ⟨#[45, 49]⟩, .string ⟨#[]⟩, .string ⟨#[]⟩, .string ⟨#[57, 50, 50, 51, 51, 55, 50, 48, 51, 54, 56, 53, 52, 55, 55, 53, 56, 48, 55]⟩, .string ⟨#[50, 49, 52, 55, 52, 56, 51, 54, 52, 55]⟩, .string ⟨#[51, 50, 55, 54, 55]⟩, .string ⟨#[49, 50, 55]⟩, .string ⟨#[49, 56, 52, 52, 54, 55, 52, 52, 48, 55, 51, 55, 48, 57, 53, 53, 49, 54, 49, 53]⟩, .string ⟨#[52, 50, 57, 52, 57, 54, 55, 50, 57, 53]⟩, .string ⟨#[54, 53, 53, 51, 53]⟩, .string ⟨#[50, 53, 53]⟩] 9) = U from hU]
  clear hU
  have HB : Hid (Below U.heap.size U U.drew) := Dc.Below.drewN' 1
  refine wp_region_held_drew (S := fun W => W.heap[w.heap.size]? = some (.cells #[.bool n.1, .slice va n.2.1.length vc, .int .i64 n.2.2] 43 (0, 0)) ∧ W.heap[w.heap.size + 1]? = some (.cells loT 9 (0, 0)) ∧ W.heap[w.heap.size + 1 + 1]? = some (.cells hiT 9 (0, 0))) (by kernel_rfl) (HK.out _ HB.out) (fun hHeld => ?_)
  refine wpAnyH_take (i := 0) (v := (.slice (some ⟨w.heap.size + 1, 0, none⟩) 24 24)) rfl (by kernel_rfl) (by kernel_rfl) (by kernel_rfl) (fun _ _ _ h => h) (Or.inl ⟨by kernel_rfl, fun w' hSw => (by go_simp)⟩) (by assumption) ?_
  try simp only [Act.put, List.getElem_toArray, List.getElem_cons_zero, List.getElem_cons_succ, List.setIfInBounds_toArray, List.set_cons_zero, List.set_cons_succ]
  refine wpAnyH_take (i := 1) (v := (.int .i64 (kn : Int))) rfl (by kernel_rfl) (by kernel_rfl) (by kernel_rfl) (fun _ _ _ h => h) (Or.inl ⟨by kernel_rfl, fun w' hSw => (by go_simp)⟩) (by assumption) ?_
  try simp only [Act.put, List.getElem_toArray, List.getElem_cons_zero, List.getElem_cons_succ, List.setIfInBounds_toArray, List.set_cons_zero, List.set_cons_succ]
  refine wpAnyH_take (i := 2) (v := (.pointer (some ⟨w.heap.size + 1, kn, none⟩))) rfl (by kernel_rfl) (by kernel_rfl) (by kernel_rfl) (fun _ _ _ h => h) (Or.inl ⟨by kernel_rfl, fun w' hSw => (by go_simp)⟩) (by assumption) ?_
  try simp only [Act.put, List.getElem_toArray, List.getElem_cons_zero, List.getElem_cons_succ, List.setIfInBounds_toArray, List.set_cons_zero, List.set_cons_succ]
  refine wpAnyH_take (i := 3) (v := (.string lo)) rfl (by kernel_rfl) (by kernel_rfl) (by kernel_rfl) (fun _ _ _ h => h) (Or.inl ⟨by kernel_rfl, fun w' hSw => (by have hc : w'.cell? ⟨w.heap.size + 1, kn, none⟩ = some (.string lo) := (row_cell hSw.2.1).trans Hlo.out; go_simp)⟩) (by assumption) ?_
  try simp only [Act.put, List.getElem_toArray, List.getElem_cons_zero, List.getElem_cons_succ, List.setIfInBounds_toArray, List.set_cons_zero, List.set_cons_succ]
  refine wpAnyH_take (i := 4) (v := (.bool false)) rfl (by kernel_rfl) (by kernel_rfl) (by kernel_rfl) (fun _ _ _ h => h) (Or.inl ⟨by kernel_rfl, fun w' hSw => (by go_simp)⟩) (by assumption) ?_
  try simp only [Act.put, List.getElem_toArray, List.getElem_cons_zero, List.getElem_cons_succ, List.setIfInBounds_toArray, List.set_cons_zero, List.set_cons_succ]
  refine wpAnyH_take (i := 5) (v := (.bool false)) rfl (by kernel_rfl) (by kernel_rfl) (by kernel_rfl) (fun _ _ _ h => h) (Or.inl ⟨by kernel_rfl, fun w' hSw => (by go_simp)⟩) (by assumption) ?_
  try simp only [Act.put, List.getElem_toArray, List.getElem_cons_zero, List.getElem_cons_succ, List.setIfInBounds_toArray, List.set_cons_zero, List.set_cons_succ]
  refine wpAnyH_take (i := 6) (v := (undef)) rfl (by kernel_rfl) (by kernel_rfl) (by kernel_rfl) (fun _ _ _ h => h) (Or.inr ⟨by kernel_rfl, rfl⟩) (by assumption) ?_
  try simp only [Act.put, List.getElem_toArray, List.getElem_cons_zero, List.getElem_cons_succ, List.setIfInBounds_toArray, List.set_cons_zero, List.set_cons_succ]
  refine wpAnyH_take (i := 7) (v := (undef)) rfl (by kernel_rfl) (by kernel_rfl) (by kernel_rfl) (fun _ _ _ h => h) (Or.inr ⟨by kernel_rfl, rfl⟩) (by assumption) ?_
  try simp only [Act.put, List.getElem_toArray, List.getElem_cons_zero, List.getElem_cons_succ, List.setIfInBounds_toArray, List.set_cons_zero, List.set_cons_succ]
  refine wpAnyH_take (i := 8) (v := (undef)) rfl (by kernel_rfl) (by kernel_rfl) (by kernel_rfl) (fun _ _ _ h => h) (Or.inr ⟨by kernel_rfl, rfl⟩) (by assumption) ?_
  try simp only [Act.put, List.getElem_toArray, List.getElem_cons_zero, List.getElem_cons_succ, List.setIfInBounds_toArray, List.set_cons_zero, List.set_cons_succ]
  refine wpAnyH_take (i := 9) (v := (undef)) rfl (by kernel_rfl) (by kernel_rfl) (by kernel_rfl) (fun _ _ _ h => h) (Or.inr ⟨by kernel_rfl, rfl⟩) (by assumption) ?_
  try simp only [Act.put, List.getElem_toArray, List.getElem_cons_zero, List.getElem_cons_succ, List.setIfInBounds_toArray, List.set_cons_zero, List.set_cons_succ]
  refine wpAnyH_take (i := 10) (v := (undef)) rfl (by kernel_rfl) (by kernel_rfl) (by kernel_rfl) (fun _ _ _ h => h) (Or.inr ⟨by kernel_rfl, rfl⟩) (by assumption) ?_
  try simp only [Act.put, List.getElem_toArray, List.getElem_cons_zero, List.getElem_cons_succ, List.setIfInBounds_toArray, List.set_cons_zero, List.set_cons_succ]
  refine wpAnyH_take (i := 11) (v := (undef)) rfl (by kernel_rfl) (by kernel_rfl) (by kernel_rfl) (fun _ _ _ h => h) (Or.inr ⟨by kernel_rfl, rfl⟩) (by assumption) ?_
  try simp only [Act.put, List.getElem_toArray, List.getElem_cons_zero, List.getElem_cons_succ, List.setIfInBounds_toArray, List.set_cons_zero, List.set_cons_succ]
  refine wpAnyH_take (i := 12) (v := (undef)) rfl (by kernel_rfl) (by kernel_rfl) (by kernel_rfl) (fun _ _ _ h => h) (Or.inr ⟨by kernel_rfl, rfl⟩) (by assumption) ?_
  try simp only [Act.put, List.getElem_toArray, List.getElem_cons_zero, List.getElem_cons_succ, List.setIfInBounds_toArray, List.set_cons_zero, List.set_cons_succ]
  refine wpAnyH_take (i := 13) (v := (undef)) rfl (by kernel_rfl) (by kernel_rfl) (by kernel_rfl) (fun _ _ _ h => h) (Or.inr ⟨by kernel_rfl, rfl⟩) (by assumption) ?_
  try simp only [Act.put, List.getElem_toArray, List.getElem_cons_zero, List.getElem_cons_succ, List.setIfInBounds_toArray, List.set_cons_zero, List.set_cons_succ]
  refine wpAnyH_take (i := 14) (v := (.bool false)) rfl (by kernel_rfl) (by kernel_rfl) (by kernel_rfl) (fun _ _ _ h => h) (Or.inl ⟨by kernel_rfl, fun w' hSw => (by go_simp)⟩) (by assumption) ?_
  try simp only [Act.put, List.getElem_toArray, List.getElem_cons_zero, List.getElem_cons_succ, List.setIfInBounds_toArray, List.set_cons_zero, List.set_cons_succ]
  refine wpAnyH_done (by kernel_rfl) ?_ _
  clear hHeld
  go_upto_region 5 with fail
  have HB1 : Hid _ := HB.out
  clear HB
  have HB : Hid (Below U.heap.size U U.drew.drew) := HB1.out.trans ((Dc.Below.drewN' 1).mono HB1.out.size)
  refine wp_region_held_drew (S := fun W => W.heap[w.heap.size]? = some (.cells #[.bool n.1, .slice va n.2.1.length vc, .int .i64 n.2.2] 43 (0, 0)) ∧ W.heap[w.heap.size + 1]? = some (.cells loT 9 (0, 0)) ∧ W.heap[w.heap.size + 1 + 1]? = some (.cells hiT 9 (0, 0))) (by kernel_rfl) (HK.out _ HB.out) (fun hHeld => ?_)
  refine wpAnyH_take (i := 0) (v := (.slice (some ⟨w.heap.size + 1 + 1, 0, none⟩) 24 24)) rfl (by kernel_rfl) (by kernel_rfl) (by kernel_rfl) (fun _ _ _ h => h) (Or.inl ⟨by kernel_rfl, fun w' hSw => (by go_simp)⟩) (by assumption) ?_
  try simp only [Act.put, List.getElem_toArray, List.getElem_cons_zero, List.getElem_cons_succ, List.setIfInBounds_toArray, List.set_cons_zero, List.set_cons_succ]
  refine wpAnyH_take (i := 1) (v := (.int .i64 (kn : Int))) rfl (by kernel_rfl) (by kernel_rfl) (by kernel_rfl) (fun _ _ _ h => h) (Or.inl ⟨by kernel_rfl, fun w' hSw => (by go_simp)⟩) (by assumption) ?_
  try simp only [Act.put, List.getElem_toArray, List.getElem_cons_zero, List.getElem_cons_succ, List.setIfInBounds_toArray, List.set_cons_zero, List.set_cons_succ]
  refine wpAnyH_take (i := 2) (v := (.pointer (some ⟨w.heap.size + 1 + 1, kn, none⟩))) rfl (by kernel_rfl) (by kernel_rfl) (by kernel_rfl) (fun _ _ _ h => h) (Or.inl ⟨by kernel_rfl, fun w' hSw => (by go_simp)⟩) (by assumption) ?_
  try simp only [Act.put, List.getElem_toArray, List.getElem_cons_zero, List.getElem_cons_succ, List.setIfInBounds_toArray, List.set_cons_zero, List.set_cons_succ]
  refine wpAnyH_take (i := 3) (v := (.string hi)) rfl (by kernel_rfl) (by kernel_rfl) (by kernel_rfl) (fun _ _ _ h => h) (Or.inl ⟨by kernel_rfl, fun w' hSw => (by have hc : w'.cell? ⟨w.heap.size + 1 + 1, kn, none⟩ = some (.string hi) := (row_cell hSw.2.2).trans Hhi.out; go_simp)⟩) (by assumption) ?_
  try simp only [Act.put, List.getElem_toArray, List.getElem_cons_zero, List.getElem_cons_succ, List.setIfInBounds_toArray, List.set_cons_zero, List.set_cons_succ]
  refine wpAnyH_take (i := 4) (v := (.bool false)) rfl (by kernel_rfl) (by kernel_rfl) (by kernel_rfl) (fun _ _ _ h => h) (Or.inl ⟨by kernel_rfl, fun w' hSw => (by go_simp)⟩) (by assumption) ?_
  try simp only [Act.put, List.getElem_toArray, List.getElem_cons_zero, List.getElem_cons_succ, List.setIfInBounds_toArray, List.set_cons_zero, List.set_cons_succ]
  refine wpAnyH_take (i := 5) (v := (.bool false)) rfl (by kernel_rfl) (by kernel_rfl) (by kernel_rfl) (fun _ _ _ h => h) (Or.inl ⟨by kernel_rfl, fun w' hSw => (by go_simp)⟩) (by assumption) ?_
  try simp only [Act.put, List.getElem_toArray, List.getElem_cons_zero, List.getElem_cons_succ, List.setIfInBounds_toArray, List.set_cons_zero, List.set_cons_succ]
  refine wpAnyH_take (i := 6) (v := (.agg #[.bool n.1, .slice va n.2.1.length vc, .int .i64 n.2.2])) rfl (by kernel_rfl) (by kernel_rfl) (by kernel_rfl) (fun _ _ _ h => h) (yieldsIf_load_mid (by kernel_rfl) 43 _ rfl w.heap.size 0 rfl [.bool n.1, .slice va n.2.1.length vc, .int .i64 n.2.2] _ (fun W hW => rng3 hW.1) Tryz.underlying43 rfl (by kernel_rfl)) (by assumption) ?_
  try simp only [Act.put, List.getElem_toArray, List.getElem_cons_zero, List.getElem_cons_succ, List.setIfInBounds_toArray, List.set_cons_zero, List.set_cons_succ]
  refine wpAnyH_take (i := 7) (v := (.slice (some ⟨w.heap.size + 1 + 1, 0, none⟩) 24 24)) rfl (by kernel_rfl) (by kernel_rfl) (by kernel_rfl) (fun _ _ _ h => h) (Or.inl ⟨by kernel_rfl, fun w' hSw => (by go_simp)⟩) (by assumption) ?_
  try simp only [Act.put, List.getElem_toArray, List.getElem_cons_zero, List.getElem_cons_succ, List.setIfInBounds_toArray, List.set_cons_zero, List.set_cons_succ]
  refine wpAnyH_take (i := 8) (v := (.int .i64 (kn : Int))) rfl (by kernel_rfl) (by kernel_rfl) (by kernel_rfl) (fun _ _ _ h => h) (Or.inl ⟨by kernel_rfl, fun w' hSw => (by go_simp)⟩) (by assumption) ?_
  try simp only [Act.put, List.getElem_toArray, List.getElem_cons_zero, List.getElem_cons_succ, List.setIfInBounds_toArray, List.set_cons_zero, List.set_cons_succ]
  refine wpAnyH_take (i := 9) (v := (.pointer (some ⟨w.heap.size + 1 + 1, kn, none⟩))) rfl (by kernel_rfl) (by kernel_rfl) (by kernel_rfl) (fun _ _ _ h => h) (Or.inl ⟨by kernel_rfl, fun w' hSw => (by go_simp)⟩) (by assumption) ?_
  try simp only [Act.put, List.getElem_toArray, List.getElem_cons_zero, List.getElem_cons_succ, List.setIfInBounds_toArray, List.set_cons_zero, List.set_cons_succ]
  refine wpAnyH_take (i := 10) (v := (.string hi)) rfl (by kernel_rfl) (by kernel_rfl) (by kernel_rfl) (fun _ _ _ h => h) (Or.inl ⟨by kernel_rfl, fun w' hSw => (by have hc : w'.cell? ⟨w.heap.size + 1 + 1, kn, none⟩ = some (.string hi) := (row_cell hSw.2.2).trans Hhi.out; go_simp)⟩) (by assumption) ?_
  try simp only [Act.put, List.getElem_toArray, List.getElem_cons_zero, List.getElem_cons_succ, List.setIfInBounds_toArray, List.set_cons_zero, List.set_cons_succ]
  refine wpAnyH_ready (rs := [11]) (by kernel_rfl) (by simp) ?_
  refine AllReadyH.cons rfl (fun K hK => ?_) AllReadyH.nil
  go_simp
  refine Calls.mono (HPhi.out _) ?_
  rintro e w9 ⟨rv, rfl, hb9, hrv⟩
  have hbb := HB.out.trans (hb9.mono HB.out.size)
  have hS9 := HK.out _ hbb
  clear HB hHeld
  have HB : Hid _ := hbb
  have HRV : Hid (Dc.NmR w9 rv b2) := hrv
  clear hbb hb9 hrv
  go_wp2_with fail
  refine hK.out _ _ hS9 (fun hHeld => ?_)
  clear hK K hS9
  try simp only [Act.put, List.getElem_toArray, List.getElem_cons_zero, List.getElem_cons_succ, List.setIfInBounds_toArray, List.set_cons_zero, List.set_cons_succ]
  refine wpAnyH_ready (rs := [12]) (by kernel_rfl) (by simp) ?_
  refine AllReadyH.cons rfl (fun K hK => ?_) AllReadyH.nil
  go_simp
  have hcr := Dc.cmp_r (HN.out _ HB.out) HRV.out
  refine Calls.mono hcr ?_
  clear hcr
  rintro e w9 ⟨rfl, hb9⟩
  have hbb := HB.out.trans (hb9.mono HB.out.size)
  have hS9 := HK.out _ hbb
  clear HB hHeld HRV
  have HB : Hid _ := hbb
  clear hbb hb9
  go_wp2_with fail
  refine hK.out _ _ hS9 (fun hHeld => ?_)
  clear hK K hS9
  try simp only [Act.put, List.getElem_toArray, List.getElem_cons_zero, List.getElem_cons_succ, List.setIfInBounds_toArray, List.set_cons_zero, List.set_cons_succ]
  refine wpAnyH_take (i := 13) (v := (.bool (decide (Dc.cmpS n b2 ≤ 0)))) rfl (by kernel_rfl) (by kernel_rfl) (by kernel_rfl) (fun _ _ _ h => h) (Or.inl ⟨by kernel_rfl, fun w' hSw => (by go_simp)⟩) (by assumption) ?_
  try simp only [Act.put, List.getElem_toArray, List.getElem_cons_zero, List.getElem_cons_succ, List.setIfInBounds_toArray, List.set_cons_zero, List.set_cons_succ]
  refine wpAnyH_take (i := 14) (v := (.bool (decide (Dc.cmpS n b2 ≤ 0)))) rfl (by kernel_rfl) (by kernel_rfl) (by kernel_rfl) (fun _ _ _ h => h) (Or.inl ⟨by kernel_rfl, fun w' hSw => (by go_simp)⟩) (by assumption) ?_
  try simp only [Act.put, List.getElem_toArray, List.getElem_cons_zero, List.getElem_cons_succ, List.setIfInBounds_toArray, List.set_cons_zero, List.set_cons_succ]
  refine wpAnyH_take (i := 15) (v := (.bool (decide (Dc.cmpS n b2 ≤ 0)))) rfl (by kernel_rfl) (by kernel_rfl) (by kernel_rfl) (fun _ _ _ h => h) (Or.inl ⟨by kernel_rfl, fun w' hSw => (by go_simp)⟩) (by assumption) ?_
  try simp only [Act.put, List.getElem_toArray, List.getElem_cons_zero, List.getElem_cons_succ, List.setIfInBounds_toArray, List.set_cons_zero, List.set_cons_succ]
  refine wpAnyH_done (by kernel_rfl) ?_ _
  clear hHeld
  go_wp2_with fail
  go_ret
  exact ⟨rfl, HU.out.trans (HB.out.mono HU.out.size)⟩
set_option maxRecDepth 100000 in
set_option maxHeartbeats 6400000 in
theorem within_sn {w : World} {v : Value} {n : Dc.Nm} (hn : Dc.NmR w v n) (kn : Nat) (hk : kn < 24) (lo hi : ByteArray) (hlo : loT[kn]? = some (.string lo)) (hhi : hiT[kn]? = some (.string hi)) {b1 : Dc.Nm} (l1 : lo.size ≤ 100) (l2 : lo.toList ≠ []) (p1 : Dc.parS (Dc.bl lo) = .ok b1) (h2 : hi.toList = []) : Calls Tryz.prog 43 #[.int .i64 (kn : Int), Dc.nmV n.1 v n.2.2] w fun e w' => e = .returned (.bool (!(decide (Dc.cmpS n b1 < 0)) && true)) ∧ Below w.heap.size w w' := by
  obtain ⟨va, vc, rfl, _⟩ := hn.bt.form
  have e0 : (0 : Int) ≤ (kn : Int) := by omega
  have e1 : (kn : Int) < 24 := by omega
  have nlo : (lo.toList == []) = false := by simpa using l2
  have mlo : (lo.toList != []) = true := by simpa using l2
  have nhi : (hi.toList == []) = true := by simpa using h2
  have mhi : (hi.toList != []) = false := by simpa using h2
  have Hlo : Hid _ := hlo
  have Hhi : Hid _ := hhi
  have HPlo : Hid _ := fun W => bound_r (n := b1) lo W l1 p1
  have hb1 : Below w.heap.size w (((w.alloc (.cells #[.bool n.1, .slice va n.2.1.length vc, .int .i64 n.2.2] 43)).alloc (.cells loT 9)).alloc (.cells hiT 9)) := bel3 w _ _ _
  have hS := blocks3 w (.cells #[.bool n.1, .slice va n.2.1.length vc, .int .i64 n.2.2] 43) (.cells loT 9) (.cells hiT 9)
  obtain ⟨U, hU⟩ : ∃ U, ((w.alloc (.cells #[.bool n.1, .slice va n.2.1.length vc, .int .i64 n.2.2] 43)).alloc (.cells loT 9)).alloc (.cells hiT 9) = U := ⟨_, rfl⟩
  rw [hU] at hb1 hS
  have HN : Hid _ := fun W (hW : Below U.heap.size U W) => hn.below (hb1.trans (hW.mono hb1.size))
  have HK : Hid (∀ W, Below U.heap.size U W → _ ∧ _ ∧ _) := fun W hW => And.intro ((hW.block _ (Dc.lt_of hS.1)).trans hS.1) (And.intro ((hW.block _ (Dc.lt_of hS.2.1)).trans hS.2.1) ((hW.block _ (Dc.lt_of hS.2.2)).trans hS.2.2))
  have HU : Hid _ := hb1
  clear hb1 hS hn hlo hhi l2 h2 l1 p1
  go_enter Tryz.func43, Tryz.ntmps43
  go_upto_region 3 with fail
  try rw [show ((w.alloc (.cells #[.bool n.1, .slice va n.2.1.length vc, .int .i64 n.2.2] 43)).alloc (.cells #[.string ⟨#[]⟩, .string ⟨#[]⟩, .string ⟨#[]⟩, .string ⟨#[]⟩, .string ⟨#[]⟩, .string ⟨#[]⟩, .string ⟨#[]⟩, .string ⟨#[]⟩, .string ⟨#[]⟩, .string ⟨#[]⟩, .string ⟨#[]⟩, .string ⟨#[]⟩, .string ⟨#[]⟩, .string ⟨#[]⟩, .string ⟨#[48]⟩, .string ⟨#[49]⟩, .string ⟨#[45, 57, 50, 50, 51, 51, 55, 50, 48, 51, 54, 56, 53, 52, 55, 55, 53, 56, 48, 56]⟩, .string ⟨#[45, 50, 49, 52, 55, 52, 56, 51, 54, 52, 56]⟩, .string ⟨#[45, 51, 50, 55, 54, 56]⟩, .string ⟨#[45, 49, 50, 56]⟩, .string ⟨#[48]⟩, .string ⟨#[48]⟩, .string ⟨#[48]⟩, .string ⟨#[48]⟩] 9)).alloc (.cells #[.string ⟨#[]⟩, .string ⟨#[]⟩, .string ⟨#[]⟩, .string ⟨#[]⟩, .string ⟨#[]⟩, .string ⟨#[]⟩, .string ⟨#[]⟩, .string ⟨#[]⟩, .string ⟨#[]⟩, .string ⟨#[]⟩, .string ⟨#[]⟩, .string ⟨#[]⟩, .string ⟨#[48]⟩, .string ⟨#[45, 49]⟩, .string ⟨#[]⟩, .string ⟨#[]⟩, .string ⟨#[57, 50, 50, 51, 51, 55, 50, 48, 51, 54, 56, 53, 52, 55, 55, 53, 56, 48, 55]⟩, .string ⟨#[50, 49, 52, 55, 52, 56, 51, 54, 52, 55]⟩, .string ⟨#[51, 50, 55, 54, 55]⟩, .string ⟨#[49, 50, 55]⟩, .string ⟨#[49, 56, 52, 52, 54, 55, 52, 52, 48, 55, 51, 55, 48, 57, 53, 53, 49, 54, 49, 53]⟩, .string ⟨#[52, 50, 57, 52, 57, 54, 55, 50, 57, 53]⟩, .string ⟨#[54, 53, 53, 51, 53]⟩, .string ⟨#[50, 53, 53]⟩] 9) = U from hU]
  clear hU
  have HB : Hid (Below U.heap.size U U.drew) := Dc.Below.drewN' 1
  refine wp_region_held_drew (S := fun W => W.heap[w.heap.size]? = some (.cells #[.bool n.1, .slice va n.2.1.length vc, .int .i64 n.2.2] 43 (0, 0)) ∧ W.heap[w.heap.size + 1]? = some (.cells loT 9 (0, 0)) ∧ W.heap[w.heap.size + 1 + 1]? = some (.cells hiT 9 (0, 0))) (by kernel_rfl) (HK.out _ HB.out) (fun hHeld => ?_)
  refine wpAnyH_take (i := 0) (v := (.slice (some ⟨w.heap.size + 1, 0, none⟩) 24 24)) rfl (by kernel_rfl) (by kernel_rfl) (by kernel_rfl) (fun _ _ _ h => h) (Or.inl ⟨by kernel_rfl, fun w' hSw => (by go_simp)⟩) (by assumption) ?_
  try simp only [Act.put, List.getElem_toArray, List.getElem_cons_zero, List.getElem_cons_succ, List.setIfInBounds_toArray, List.set_cons_zero, List.set_cons_succ]
  refine wpAnyH_take (i := 1) (v := (.int .i64 (kn : Int))) rfl (by kernel_rfl) (by kernel_rfl) (by kernel_rfl) (fun _ _ _ h => h) (Or.inl ⟨by kernel_rfl, fun w' hSw => (by go_simp)⟩) (by assumption) ?_
  try simp only [Act.put, List.getElem_toArray, List.getElem_cons_zero, List.getElem_cons_succ, List.setIfInBounds_toArray, List.set_cons_zero, List.set_cons_succ]
  refine wpAnyH_take (i := 2) (v := (.pointer (some ⟨w.heap.size + 1, kn, none⟩))) rfl (by kernel_rfl) (by kernel_rfl) (by kernel_rfl) (fun _ _ _ h => h) (Or.inl ⟨by kernel_rfl, fun w' hSw => (by go_simp)⟩) (by assumption) ?_
  try simp only [Act.put, List.getElem_toArray, List.getElem_cons_zero, List.getElem_cons_succ, List.setIfInBounds_toArray, List.set_cons_zero, List.set_cons_succ]
  refine wpAnyH_take (i := 3) (v := (.string lo)) rfl (by kernel_rfl) (by kernel_rfl) (by kernel_rfl) (fun _ _ _ h => h) (Or.inl ⟨by kernel_rfl, fun w' hSw => (by have hc : w'.cell? ⟨w.heap.size + 1, kn, none⟩ = some (.string lo) := (row_cell hSw.2.1).trans Hlo.out; go_simp)⟩) (by assumption) ?_
  try simp only [Act.put, List.getElem_toArray, List.getElem_cons_zero, List.getElem_cons_succ, List.setIfInBounds_toArray, List.set_cons_zero, List.set_cons_succ]
  refine wpAnyH_take (i := 4) (v := (.bool true)) rfl (by kernel_rfl) (by kernel_rfl) (by kernel_rfl) (fun _ _ _ h => h) (Or.inl ⟨by kernel_rfl, fun w' hSw => (by go_simp)⟩) (by assumption) ?_
  try simp only [Act.put, List.getElem_toArray, List.getElem_cons_zero, List.getElem_cons_succ, List.setIfInBounds_toArray, List.set_cons_zero, List.set_cons_succ]
  refine wpAnyH_take (i := 5) (v := (.bool true)) rfl (by kernel_rfl) (by kernel_rfl) (by kernel_rfl) (fun _ _ _ h => h) (Or.inl ⟨by kernel_rfl, fun w' hSw => (by go_simp)⟩) (by assumption) ?_
  try simp only [Act.put, List.getElem_toArray, List.getElem_cons_zero, List.getElem_cons_succ, List.setIfInBounds_toArray, List.set_cons_zero, List.set_cons_succ]
  refine wpAnyH_take (i := 6) (v := (.agg #[.bool n.1, .slice va n.2.1.length vc, .int .i64 n.2.2])) rfl (by kernel_rfl) (by kernel_rfl) (by kernel_rfl) (fun _ _ _ h => h) (yieldsIf_load_mid (by kernel_rfl) 43 _ rfl w.heap.size 0 rfl [.bool n.1, .slice va n.2.1.length vc, .int .i64 n.2.2] _ (fun W hW => rng3 hW.1) Tryz.underlying43 rfl (by kernel_rfl)) (by assumption) ?_
  try simp only [Act.put, List.getElem_toArray, List.getElem_cons_zero, List.getElem_cons_succ, List.setIfInBounds_toArray, List.set_cons_zero, List.set_cons_succ]
  refine wpAnyH_take (i := 7) (v := (.slice (some ⟨w.heap.size + 1, 0, none⟩) 24 24)) rfl (by kernel_rfl) (by kernel_rfl) (by kernel_rfl) (fun _ _ _ h => h) (Or.inl ⟨by kernel_rfl, fun w' hSw => (by go_simp)⟩) (by assumption) ?_
  try simp only [Act.put, List.getElem_toArray, List.getElem_cons_zero, List.getElem_cons_succ, List.setIfInBounds_toArray, List.set_cons_zero, List.set_cons_succ]
  refine wpAnyH_take (i := 8) (v := (.int .i64 (kn : Int))) rfl (by kernel_rfl) (by kernel_rfl) (by kernel_rfl) (fun _ _ _ h => h) (Or.inl ⟨by kernel_rfl, fun w' hSw => (by go_simp)⟩) (by assumption) ?_
  try simp only [Act.put, List.getElem_toArray, List.getElem_cons_zero, List.getElem_cons_succ, List.setIfInBounds_toArray, List.set_cons_zero, List.set_cons_succ]
  refine wpAnyH_take (i := 9) (v := (.pointer (some ⟨w.heap.size + 1, kn, none⟩))) rfl (by kernel_rfl) (by kernel_rfl) (by kernel_rfl) (fun _ _ _ h => h) (Or.inl ⟨by kernel_rfl, fun w' hSw => (by go_simp)⟩) (by assumption) ?_
  try simp only [Act.put, List.getElem_toArray, List.getElem_cons_zero, List.getElem_cons_succ, List.setIfInBounds_toArray, List.set_cons_zero, List.set_cons_succ]
  refine wpAnyH_take (i := 10) (v := (.string lo)) rfl (by kernel_rfl) (by kernel_rfl) (by kernel_rfl) (fun _ _ _ h => h) (Or.inl ⟨by kernel_rfl, fun w' hSw => (by have hc : w'.cell? ⟨w.heap.size + 1, kn, none⟩ = some (.string lo) := (row_cell hSw.2.1).trans Hlo.out; go_simp)⟩) (by assumption) ?_
  try simp only [Act.put, List.getElem_toArray, List.getElem_cons_zero, List.getElem_cons_succ, List.setIfInBounds_toArray, List.set_cons_zero, List.set_cons_succ]
  refine wpAnyH_ready (rs := [11]) (by kernel_rfl) (by simp) ?_
  refine AllReadyH.cons rfl (fun K hK => ?_) AllReadyH.nil
  go_simp
  refine Calls.mono (HPlo.out _) ?_
  rintro e w9 ⟨rv, rfl, hb9, hrv⟩
  have hbb := HB.out.trans (hb9.mono HB.out.size)
  have hS9 := HK.out _ hbb
  clear HB hHeld
  have HB : Hid _ := hbb
  have HRV : Hid (Dc.NmR w9 rv b1) := hrv
  clear hbb hb9 hrv
  go_wp2_with fail
  refine hK.out _ _ hS9 (fun hHeld => ?_)
  clear hK K hS9
  try simp only [Act.put, List.getElem_toArray, List.getElem_cons_zero, List.getElem_cons_succ, List.setIfInBounds_toArray, List.set_cons_zero, List.set_cons_succ]
  refine wpAnyH_ready (rs := [12]) (by kernel_rfl) (by simp) ?_
  refine AllReadyH.cons rfl (fun K hK => ?_) AllReadyH.nil
  go_simp
  have hcr := Dc.cmp_r (HN.out _ HB.out) HRV.out
  refine Calls.mono hcr ?_
  clear hcr
  rintro e w9 ⟨rfl, hb9⟩
  have hbb := HB.out.trans (hb9.mono HB.out.size)
  have hS9 := HK.out _ hbb
  clear HB hHeld HRV
  have HB : Hid _ := hbb
  clear hbb hb9
  go_wp2_with fail
  refine hK.out _ _ hS9 (fun hHeld => ?_)
  clear hK K hS9
  try simp only [Act.put, List.getElem_toArray, List.getElem_cons_zero, List.getElem_cons_succ, List.setIfInBounds_toArray, List.set_cons_zero, List.set_cons_succ]
  refine wpAnyH_take (i := 13) (v := (.bool (decide (Dc.cmpS n b1 < 0)))) rfl (by kernel_rfl) (by kernel_rfl) (by kernel_rfl) (fun _ _ _ h => h) (Or.inl ⟨by kernel_rfl, fun w' hSw => (by go_simp)⟩) (by assumption) ?_
  try simp only [Act.put, List.getElem_toArray, List.getElem_cons_zero, List.getElem_cons_succ, List.setIfInBounds_toArray, List.set_cons_zero, List.set_cons_succ]
  refine wpAnyH_take (i := 14) (v := (.bool (decide (Dc.cmpS n b1 < 0)))) rfl (by kernel_rfl) (by kernel_rfl) (by kernel_rfl) (fun _ _ _ h => h) (Or.inl ⟨by kernel_rfl, fun w' hSw => (by go_simp)⟩) (by assumption) ?_
  try simp only [Act.put, List.getElem_toArray, List.getElem_cons_zero, List.getElem_cons_succ, List.setIfInBounds_toArray, List.set_cons_zero, List.set_cons_succ]
  refine wpAnyH_done (by kernel_rfl) ?_ _
  clear hHeld
  obtain ⟨c, hc⟩ : ∃ c, decide (Dc.cmpS n b1 < 0) = c := ⟨_, rfl⟩
  rw [hc]
  have HC : Hid _ := hc
  clear hc
  cases c with
  | true =>
    go_wp2_with fail
    go_ret
    exact ⟨ret_b (by rw [HC.out]; rfl), HU.out.trans (HB.out.mono HU.out.size)⟩
  | false =>
    go_upto_region 5 with fail
    have HB1 : Hid _ := HB.out
    clear HB
    have HB : Hid (Below U.heap.size U w9.drew) := HB1.out.trans ((Dc.Below.drewN' 1).mono HB1.out.size)
    refine wp_region_held_drew (S := fun W => W.heap[w.heap.size]? = some (.cells #[.bool n.1, .slice va n.2.1.length vc, .int .i64 n.2.2] 43 (0, 0)) ∧ W.heap[w.heap.size + 1]? = some (.cells loT 9 (0, 0)) ∧ W.heap[w.heap.size + 1 + 1]? = some (.cells hiT 9 (0, 0))) (by kernel_rfl) (HK.out _ HB.out) (fun hHeld => ?_)
    refine wpAnyH_take (i := 0) (v := (.slice (some ⟨w.heap.size + 1 + 1, 0, none⟩) 24 24)) rfl (by kernel_rfl) (by kernel_rfl) (by kernel_rfl) (fun _ _ _ h => h) (Or.inl ⟨by kernel_rfl, fun w' hSw => (by go_simp)⟩) (by assumption) ?_
    try simp only [Act.put, List.getElem_toArray, List.getElem_cons_zero, List.getElem_cons_succ, List.setIfInBounds_toArray, List.set_cons_zero, List.set_cons_succ]
    refine wpAnyH_take (i := 1) (v := (.int .i64 (kn : Int))) rfl (by kernel_rfl) (by kernel_rfl) (by kernel_rfl) (fun _ _ _ h => h) (Or.inl ⟨by kernel_rfl, fun w' hSw => (by go_simp)⟩) (by assumption) ?_
    try simp only [Act.put, List.getElem_toArray, List.getElem_cons_zero, List.getElem_cons_succ, List.setIfInBounds_toArray, List.set_cons_zero, List.set_cons_succ]
    refine wpAnyH_take (i := 2) (v := (.pointer (some ⟨w.heap.size + 1 + 1, kn, none⟩))) rfl (by kernel_rfl) (by kernel_rfl) (by kernel_rfl) (fun _ _ _ h => h) (Or.inl ⟨by kernel_rfl, fun w' hSw => (by go_simp)⟩) (by assumption) ?_
    try simp only [Act.put, List.getElem_toArray, List.getElem_cons_zero, List.getElem_cons_succ, List.setIfInBounds_toArray, List.set_cons_zero, List.set_cons_succ]
    refine wpAnyH_take (i := 3) (v := (.string hi)) rfl (by kernel_rfl) (by kernel_rfl) (by kernel_rfl) (fun _ _ _ h => h) (Or.inl ⟨by kernel_rfl, fun w' hSw => (by have hc : w'.cell? ⟨w.heap.size + 1 + 1, kn, none⟩ = some (.string hi) := (row_cell hSw.2.2).trans Hhi.out; go_simp)⟩) (by assumption) ?_
    try simp only [Act.put, List.getElem_toArray, List.getElem_cons_zero, List.getElem_cons_succ, List.setIfInBounds_toArray, List.set_cons_zero, List.set_cons_succ]
    refine wpAnyH_take (i := 4) (v := (.bool true)) rfl (by kernel_rfl) (by kernel_rfl) (by kernel_rfl) (fun _ _ _ h => h) (Or.inl ⟨by kernel_rfl, fun w' hSw => (by go_simp)⟩) (by assumption) ?_
    try simp only [Act.put, List.getElem_toArray, List.getElem_cons_zero, List.getElem_cons_succ, List.setIfInBounds_toArray, List.set_cons_zero, List.set_cons_succ]
    refine wpAnyH_take (i := 5) (v := (.bool true)) rfl (by kernel_rfl) (by kernel_rfl) (by kernel_rfl) (fun _ _ _ h => h) (Or.inl ⟨by kernel_rfl, fun w' hSw => (by go_simp)⟩) (by assumption) ?_
    try simp only [Act.put, List.getElem_toArray, List.getElem_cons_zero, List.getElem_cons_succ, List.setIfInBounds_toArray, List.set_cons_zero, List.set_cons_succ]
    refine wpAnyH_take (i := 6) (v := (undef)) rfl (by kernel_rfl) (by kernel_rfl) (by kernel_rfl) (fun _ _ _ h => h) (Or.inr ⟨by kernel_rfl, rfl⟩) (by assumption) ?_
    try simp only [Act.put, List.getElem_toArray, List.getElem_cons_zero, List.getElem_cons_succ, List.setIfInBounds_toArray, List.set_cons_zero, List.set_cons_succ]
    refine wpAnyH_take (i := 7) (v := (undef)) rfl (by kernel_rfl) (by kernel_rfl) (by kernel_rfl) (fun _ _ _ h => h) (Or.inr ⟨by kernel_rfl, rfl⟩) (by assumption) ?_
    try simp only [Act.put, List.getElem_toArray, List.getElem_cons_zero, List.getElem_cons_succ, List.setIfInBounds_toArray, List.set_cons_zero, List.set_cons_succ]
    refine wpAnyH_take (i := 8) (v := (undef)) rfl (by kernel_rfl) (by kernel_rfl) (by kernel_rfl) (fun _ _ _ h => h) (Or.inr ⟨by kernel_rfl, rfl⟩) (by assumption) ?_
    try simp only [Act.put, List.getElem_toArray, List.getElem_cons_zero, List.getElem_cons_succ, List.setIfInBounds_toArray, List.set_cons_zero, List.set_cons_succ]
    refine wpAnyH_take (i := 9) (v := (undef)) rfl (by kernel_rfl) (by kernel_rfl) (by kernel_rfl) (fun _ _ _ h => h) (Or.inr ⟨by kernel_rfl, rfl⟩) (by assumption) ?_
    try simp only [Act.put, List.getElem_toArray, List.getElem_cons_zero, List.getElem_cons_succ, List.setIfInBounds_toArray, List.set_cons_zero, List.set_cons_succ]
    refine wpAnyH_take (i := 10) (v := (undef)) rfl (by kernel_rfl) (by kernel_rfl) (by kernel_rfl) (fun _ _ _ h => h) (Or.inr ⟨by kernel_rfl, rfl⟩) (by assumption) ?_
    try simp only [Act.put, List.getElem_toArray, List.getElem_cons_zero, List.getElem_cons_succ, List.setIfInBounds_toArray, List.set_cons_zero, List.set_cons_succ]
    refine wpAnyH_take (i := 11) (v := (undef)) rfl (by kernel_rfl) (by kernel_rfl) (by kernel_rfl) (fun _ _ _ h => h) (Or.inr ⟨by kernel_rfl, rfl⟩) (by assumption) ?_
    try simp only [Act.put, List.getElem_toArray, List.getElem_cons_zero, List.getElem_cons_succ, List.setIfInBounds_toArray, List.set_cons_zero, List.set_cons_succ]
    refine wpAnyH_take (i := 12) (v := (undef)) rfl (by kernel_rfl) (by kernel_rfl) (by kernel_rfl) (fun _ _ _ h => h) (Or.inr ⟨by kernel_rfl, rfl⟩) (by assumption) ?_
    try simp only [Act.put, List.getElem_toArray, List.getElem_cons_zero, List.getElem_cons_succ, List.setIfInBounds_toArray, List.set_cons_zero, List.set_cons_succ]
    refine wpAnyH_take (i := 13) (v := (undef)) rfl (by kernel_rfl) (by kernel_rfl) (by kernel_rfl) (fun _ _ _ h => h) (Or.inr ⟨by kernel_rfl, rfl⟩) (by assumption) ?_
    try simp only [Act.put, List.getElem_toArray, List.getElem_cons_zero, List.getElem_cons_succ, List.setIfInBounds_toArray, List.set_cons_zero, List.set_cons_succ]
    refine wpAnyH_take (i := 14) (v := (.bool true)) rfl (by kernel_rfl) (by kernel_rfl) (by kernel_rfl) (fun _ _ _ h => h) (Or.inl ⟨by kernel_rfl, fun w' hSw => (by go_simp)⟩) (by assumption) ?_
    try simp only [Act.put, List.getElem_toArray, List.getElem_cons_zero, List.getElem_cons_succ, List.setIfInBounds_toArray, List.set_cons_zero, List.set_cons_succ]
    refine wpAnyH_take (i := 15) (v := (.bool true)) rfl (by kernel_rfl) (by kernel_rfl) (by kernel_rfl) (fun _ _ _ h => h) (Or.inl ⟨by kernel_rfl, fun w' hSw => (by go_simp)⟩) (by assumption) ?_
    try simp only [Act.put, List.getElem_toArray, List.getElem_cons_zero, List.getElem_cons_succ, List.setIfInBounds_toArray, List.set_cons_zero, List.set_cons_succ]
    refine wpAnyH_done (by kernel_rfl) ?_ _
    clear hHeld
    go_wp2_with fail
    go_ret
    exact ⟨ret_b (by rw [HC.out]; rfl), HU.out.trans (HB.out.mono HU.out.size)⟩
set_option maxRecDepth 100000 in
set_option maxHeartbeats 6400000 in
theorem within_ss {w : World} {v : Value} {n : Dc.Nm} (hn : Dc.NmR w v n) (kn : Nat) (hk : kn < 24) (lo hi : ByteArray) (hlo : loT[kn]? = some (.string lo)) (hhi : hiT[kn]? = some (.string hi)) {b1 : Dc.Nm} (l1 : lo.size ≤ 100) (l2 : lo.toList ≠ []) (p1 : Dc.parS (Dc.bl lo) = .ok b1) {b2 : Dc.Nm} (h1 : hi.size ≤ 100) (h2 : hi.toList ≠ []) (p2 : Dc.parS (Dc.bl hi) = .ok b2) : Calls Tryz.prog 43 #[.int .i64 (kn : Int), Dc.nmV n.1 v n.2.2] w fun e w' => e = .returned (.bool (!(decide (Dc.cmpS n b1 < 0)) && decide (Dc.cmpS n b2 ≤ 0))) ∧ Below w.heap.size w w' := by
  obtain ⟨va, vc, rfl, _⟩ := hn.bt.form
  have e0 : (0 : Int) ≤ (kn : Int) := by omega
  have e1 : (kn : Int) < 24 := by omega
  have nlo : (lo.toList == []) = false := by simpa using l2
  have mlo : (lo.toList != []) = true := by simpa using l2
  have nhi : (hi.toList == []) = false := by simpa using h2
  have mhi : (hi.toList != []) = true := by simpa using h2
  have Hlo : Hid _ := hlo
  have Hhi : Hid _ := hhi
  have HPlo : Hid _ := fun W => bound_r (n := b1) lo W l1 p1
  have HPhi : Hid _ := fun W => bound_r (n := b2) hi W h1 p2
  have hb1 : Below w.heap.size w (((w.alloc (.cells #[.bool n.1, .slice va n.2.1.length vc, .int .i64 n.2.2] 43)).alloc (.cells loT 9)).alloc (.cells hiT 9)) := bel3 w _ _ _
  have hS := blocks3 w (.cells #[.bool n.1, .slice va n.2.1.length vc, .int .i64 n.2.2] 43) (.cells loT 9) (.cells hiT 9)
  obtain ⟨U, hU⟩ : ∃ U, ((w.alloc (.cells #[.bool n.1, .slice va n.2.1.length vc, .int .i64 n.2.2] 43)).alloc (.cells loT 9)).alloc (.cells hiT 9) = U := ⟨_, rfl⟩
  rw [hU] at hb1 hS
  have HN : Hid _ := fun W (hW : Below U.heap.size U W) => hn.below (hb1.trans (hW.mono hb1.size))
  have HK : Hid (∀ W, Below U.heap.size U W → _ ∧ _ ∧ _) := fun W hW => And.intro ((hW.block _ (Dc.lt_of hS.1)).trans hS.1) (And.intro ((hW.block _ (Dc.lt_of hS.2.1)).trans hS.2.1) ((hW.block _ (Dc.lt_of hS.2.2)).trans hS.2.2))
  have HU : Hid _ := hb1
  clear hb1 hS hn hlo hhi l2 h2 l1 p1 h1 p2
  go_enter Tryz.func43, Tryz.ntmps43
  go_upto_region 3 with fail
  try rw [show ((w.alloc (.cells #[.bool n.1, .slice va n.2.1.length vc, .int .i64 n.2.2] 43)).alloc (.cells #[.string ⟨#[]⟩, .string ⟨#[]⟩, .string ⟨#[]⟩, .string ⟨#[]⟩, .string ⟨#[]⟩, .string ⟨#[]⟩, .string ⟨#[]⟩, .string ⟨#[]⟩, .string ⟨#[]⟩, .string ⟨#[]⟩, .string ⟨#[]⟩, .string ⟨#[]⟩, .string ⟨#[]⟩, .string ⟨#[]⟩, .string ⟨#[48]⟩, .string ⟨#[49]⟩, .string ⟨#[45, 57, 50, 50, 51, 51, 55, 50, 48, 51, 54, 56, 53, 52, 55, 55, 53, 56, 48, 56]⟩, .string ⟨#[45, 50, 49, 52, 55, 52, 56, 51, 54, 52, 56]⟩, .string ⟨#[45, 51, 50, 55, 54, 56]⟩, .string ⟨#[45, 49, 50, 56]⟩, .string ⟨#[48]⟩, .string ⟨#[48]⟩, .string ⟨#[48]⟩, .string ⟨#[48]⟩] 9)).alloc (.cells #[.string ⟨#[]⟩, .string ⟨#[]⟩, .string ⟨#[]⟩, .string ⟨#[]⟩, .string ⟨#[]⟩, .string ⟨#[]⟩, .string ⟨#[]⟩, .string ⟨#[]⟩, .string ⟨#[]⟩, .string ⟨#[]⟩, .string ⟨#[]⟩, .string ⟨#[]⟩, .string ⟨#[48]⟩, .string ⟨#[45, 49]⟩, .string ⟨#[]⟩, .string ⟨#[]⟩, .string ⟨#[57, 50, 50, 51, 51, 55, 50, 48, 51, 54, 56, 53, 52, 55, 55, 53, 56, 48, 55]⟩, .string ⟨#[50, 49, 52, 55, 52, 56, 51, 54, 52, 55]⟩, .string ⟨#[51, 50, 55, 54, 55]⟩, .string ⟨#[49, 50, 55]⟩, .string ⟨#[49, 56, 52, 52, 54, 55, 52, 52, 48, 55, 51, 55, 48, 57, 53, 53, 49, 54, 49, 53]⟩, .string ⟨#[52, 50, 57, 52, 57, 54, 55, 50, 57, 53]⟩, .string ⟨#[54, 53, 53, 51, 53]⟩, .string ⟨#[50, 53, 53]⟩] 9) = U from hU]
  clear hU
  have HB : Hid (Below U.heap.size U U.drew) := Dc.Below.drewN' 1
  refine wp_region_held_drew (S := fun W => W.heap[w.heap.size]? = some (.cells #[.bool n.1, .slice va n.2.1.length vc, .int .i64 n.2.2] 43 (0, 0)) ∧ W.heap[w.heap.size + 1]? = some (.cells loT 9 (0, 0)) ∧ W.heap[w.heap.size + 1 + 1]? = some (.cells hiT 9 (0, 0))) (by kernel_rfl) (HK.out _ HB.out) (fun hHeld => ?_)
  refine wpAnyH_take (i := 0) (v := (.slice (some ⟨w.heap.size + 1, 0, none⟩) 24 24)) rfl (by kernel_rfl) (by kernel_rfl) (by kernel_rfl) (fun _ _ _ h => h) (Or.inl ⟨by kernel_rfl, fun w' hSw => (by go_simp)⟩) (by assumption) ?_
  try simp only [Act.put, List.getElem_toArray, List.getElem_cons_zero, List.getElem_cons_succ, List.setIfInBounds_toArray, List.set_cons_zero, List.set_cons_succ]
  refine wpAnyH_take (i := 1) (v := (.int .i64 (kn : Int))) rfl (by kernel_rfl) (by kernel_rfl) (by kernel_rfl) (fun _ _ _ h => h) (Or.inl ⟨by kernel_rfl, fun w' hSw => (by go_simp)⟩) (by assumption) ?_
  try simp only [Act.put, List.getElem_toArray, List.getElem_cons_zero, List.getElem_cons_succ, List.setIfInBounds_toArray, List.set_cons_zero, List.set_cons_succ]
  refine wpAnyH_take (i := 2) (v := (.pointer (some ⟨w.heap.size + 1, kn, none⟩))) rfl (by kernel_rfl) (by kernel_rfl) (by kernel_rfl) (fun _ _ _ h => h) (Or.inl ⟨by kernel_rfl, fun w' hSw => (by go_simp)⟩) (by assumption) ?_
  try simp only [Act.put, List.getElem_toArray, List.getElem_cons_zero, List.getElem_cons_succ, List.setIfInBounds_toArray, List.set_cons_zero, List.set_cons_succ]
  refine wpAnyH_take (i := 3) (v := (.string lo)) rfl (by kernel_rfl) (by kernel_rfl) (by kernel_rfl) (fun _ _ _ h => h) (Or.inl ⟨by kernel_rfl, fun w' hSw => (by have hc : w'.cell? ⟨w.heap.size + 1, kn, none⟩ = some (.string lo) := (row_cell hSw.2.1).trans Hlo.out; go_simp)⟩) (by assumption) ?_
  try simp only [Act.put, List.getElem_toArray, List.getElem_cons_zero, List.getElem_cons_succ, List.setIfInBounds_toArray, List.set_cons_zero, List.set_cons_succ]
  refine wpAnyH_take (i := 4) (v := (.bool true)) rfl (by kernel_rfl) (by kernel_rfl) (by kernel_rfl) (fun _ _ _ h => h) (Or.inl ⟨by kernel_rfl, fun w' hSw => (by go_simp)⟩) (by assumption) ?_
  try simp only [Act.put, List.getElem_toArray, List.getElem_cons_zero, List.getElem_cons_succ, List.setIfInBounds_toArray, List.set_cons_zero, List.set_cons_succ]
  refine wpAnyH_take (i := 5) (v := (.bool true)) rfl (by kernel_rfl) (by kernel_rfl) (by kernel_rfl) (fun _ _ _ h => h) (Or.inl ⟨by kernel_rfl, fun w' hSw => (by go_simp)⟩) (by assumption) ?_
  try simp only [Act.put, List.getElem_toArray, List.getElem_cons_zero, List.getElem_cons_succ, List.setIfInBounds_toArray, List.set_cons_zero, List.set_cons_succ]
  refine wpAnyH_take (i := 6) (v := (.agg #[.bool n.1, .slice va n.2.1.length vc, .int .i64 n.2.2])) rfl (by kernel_rfl) (by kernel_rfl) (by kernel_rfl) (fun _ _ _ h => h) (yieldsIf_load_mid (by kernel_rfl) 43 _ rfl w.heap.size 0 rfl [.bool n.1, .slice va n.2.1.length vc, .int .i64 n.2.2] _ (fun W hW => rng3 hW.1) Tryz.underlying43 rfl (by kernel_rfl)) (by assumption) ?_
  try simp only [Act.put, List.getElem_toArray, List.getElem_cons_zero, List.getElem_cons_succ, List.setIfInBounds_toArray, List.set_cons_zero, List.set_cons_succ]
  refine wpAnyH_take (i := 7) (v := (.slice (some ⟨w.heap.size + 1, 0, none⟩) 24 24)) rfl (by kernel_rfl) (by kernel_rfl) (by kernel_rfl) (fun _ _ _ h => h) (Or.inl ⟨by kernel_rfl, fun w' hSw => (by go_simp)⟩) (by assumption) ?_
  try simp only [Act.put, List.getElem_toArray, List.getElem_cons_zero, List.getElem_cons_succ, List.setIfInBounds_toArray, List.set_cons_zero, List.set_cons_succ]
  refine wpAnyH_take (i := 8) (v := (.int .i64 (kn : Int))) rfl (by kernel_rfl) (by kernel_rfl) (by kernel_rfl) (fun _ _ _ h => h) (Or.inl ⟨by kernel_rfl, fun w' hSw => (by go_simp)⟩) (by assumption) ?_
  try simp only [Act.put, List.getElem_toArray, List.getElem_cons_zero, List.getElem_cons_succ, List.setIfInBounds_toArray, List.set_cons_zero, List.set_cons_succ]
  refine wpAnyH_take (i := 9) (v := (.pointer (some ⟨w.heap.size + 1, kn, none⟩))) rfl (by kernel_rfl) (by kernel_rfl) (by kernel_rfl) (fun _ _ _ h => h) (Or.inl ⟨by kernel_rfl, fun w' hSw => (by go_simp)⟩) (by assumption) ?_
  try simp only [Act.put, List.getElem_toArray, List.getElem_cons_zero, List.getElem_cons_succ, List.setIfInBounds_toArray, List.set_cons_zero, List.set_cons_succ]
  refine wpAnyH_take (i := 10) (v := (.string lo)) rfl (by kernel_rfl) (by kernel_rfl) (by kernel_rfl) (fun _ _ _ h => h) (Or.inl ⟨by kernel_rfl, fun w' hSw => (by have hc : w'.cell? ⟨w.heap.size + 1, kn, none⟩ = some (.string lo) := (row_cell hSw.2.1).trans Hlo.out; go_simp)⟩) (by assumption) ?_
  try simp only [Act.put, List.getElem_toArray, List.getElem_cons_zero, List.getElem_cons_succ, List.setIfInBounds_toArray, List.set_cons_zero, List.set_cons_succ]
  refine wpAnyH_ready (rs := [11]) (by kernel_rfl) (by simp) ?_
  refine AllReadyH.cons rfl (fun K hK => ?_) AllReadyH.nil
  go_simp
  refine Calls.mono (HPlo.out _) ?_
  rintro e w9 ⟨rv, rfl, hb9, hrv⟩
  have hbb := HB.out.trans (hb9.mono HB.out.size)
  have hS9 := HK.out _ hbb
  clear HB hHeld
  have HB : Hid _ := hbb
  have HRV : Hid (Dc.NmR w9 rv b1) := hrv
  clear hbb hb9 hrv
  go_wp2_with fail
  refine hK.out _ _ hS9 (fun hHeld => ?_)
  clear hK K hS9
  try simp only [Act.put, List.getElem_toArray, List.getElem_cons_zero, List.getElem_cons_succ, List.setIfInBounds_toArray, List.set_cons_zero, List.set_cons_succ]
  refine wpAnyH_ready (rs := [12]) (by kernel_rfl) (by simp) ?_
  refine AllReadyH.cons rfl (fun K hK => ?_) AllReadyH.nil
  go_simp
  have hcr := Dc.cmp_r (HN.out _ HB.out) HRV.out
  refine Calls.mono hcr ?_
  clear hcr
  rintro e w9 ⟨rfl, hb9⟩
  have hbb := HB.out.trans (hb9.mono HB.out.size)
  have hS9 := HK.out _ hbb
  clear HB hHeld HRV
  have HB : Hid _ := hbb
  clear hbb hb9
  go_wp2_with fail
  refine hK.out _ _ hS9 (fun hHeld => ?_)
  clear hK K hS9
  try simp only [Act.put, List.getElem_toArray, List.getElem_cons_zero, List.getElem_cons_succ, List.setIfInBounds_toArray, List.set_cons_zero, List.set_cons_succ]
  refine wpAnyH_take (i := 13) (v := (.bool (decide (Dc.cmpS n b1 < 0)))) rfl (by kernel_rfl) (by kernel_rfl) (by kernel_rfl) (fun _ _ _ h => h) (Or.inl ⟨by kernel_rfl, fun w' hSw => (by go_simp)⟩) (by assumption) ?_
  try simp only [Act.put, List.getElem_toArray, List.getElem_cons_zero, List.getElem_cons_succ, List.setIfInBounds_toArray, List.set_cons_zero, List.set_cons_succ]
  refine wpAnyH_take (i := 14) (v := (.bool (decide (Dc.cmpS n b1 < 0)))) rfl (by kernel_rfl) (by kernel_rfl) (by kernel_rfl) (fun _ _ _ h => h) (Or.inl ⟨by kernel_rfl, fun w' hSw => (by go_simp)⟩) (by assumption) ?_
  try simp only [Act.put, List.getElem_toArray, List.getElem_cons_zero, List.getElem_cons_succ, List.setIfInBounds_toArray, List.set_cons_zero, List.set_cons_succ]
  refine wpAnyH_done (by kernel_rfl) ?_ _
  clear hHeld
  obtain ⟨c, hc⟩ : ∃ c, decide (Dc.cmpS n b1 < 0) = c := ⟨_, rfl⟩
  rw [hc]
  have HC : Hid _ := hc
  clear hc
  cases c with
  | true =>
    go_wp2_with fail
    go_ret
    exact ⟨ret_b (by rw [HC.out]; rfl), HU.out.trans (HB.out.mono HU.out.size)⟩
  | false =>
    go_upto_region 5 with fail
    have HB1 : Hid _ := HB.out
    clear HB
    have HB : Hid (Below U.heap.size U w9.drew) := HB1.out.trans ((Dc.Below.drewN' 1).mono HB1.out.size)
    refine wp_region_held_drew (S := fun W => W.heap[w.heap.size]? = some (.cells #[.bool n.1, .slice va n.2.1.length vc, .int .i64 n.2.2] 43 (0, 0)) ∧ W.heap[w.heap.size + 1]? = some (.cells loT 9 (0, 0)) ∧ W.heap[w.heap.size + 1 + 1]? = some (.cells hiT 9 (0, 0))) (by kernel_rfl) (HK.out _ HB.out) (fun hHeld => ?_)
    refine wpAnyH_take (i := 0) (v := (.slice (some ⟨w.heap.size + 1 + 1, 0, none⟩) 24 24)) rfl (by kernel_rfl) (by kernel_rfl) (by kernel_rfl) (fun _ _ _ h => h) (Or.inl ⟨by kernel_rfl, fun w' hSw => (by go_simp)⟩) (by assumption) ?_
    try simp only [Act.put, List.getElem_toArray, List.getElem_cons_zero, List.getElem_cons_succ, List.setIfInBounds_toArray, List.set_cons_zero, List.set_cons_succ]
    refine wpAnyH_take (i := 1) (v := (.int .i64 (kn : Int))) rfl (by kernel_rfl) (by kernel_rfl) (by kernel_rfl) (fun _ _ _ h => h) (Or.inl ⟨by kernel_rfl, fun w' hSw => (by go_simp)⟩) (by assumption) ?_
    try simp only [Act.put, List.getElem_toArray, List.getElem_cons_zero, List.getElem_cons_succ, List.setIfInBounds_toArray, List.set_cons_zero, List.set_cons_succ]
    refine wpAnyH_take (i := 2) (v := (.pointer (some ⟨w.heap.size + 1 + 1, kn, none⟩))) rfl (by kernel_rfl) (by kernel_rfl) (by kernel_rfl) (fun _ _ _ h => h) (Or.inl ⟨by kernel_rfl, fun w' hSw => (by go_simp)⟩) (by assumption) ?_
    try simp only [Act.put, List.getElem_toArray, List.getElem_cons_zero, List.getElem_cons_succ, List.setIfInBounds_toArray, List.set_cons_zero, List.set_cons_succ]
    refine wpAnyH_take (i := 3) (v := (.string hi)) rfl (by kernel_rfl) (by kernel_rfl) (by kernel_rfl) (fun _ _ _ h => h) (Or.inl ⟨by kernel_rfl, fun w' hSw => (by have hc : w'.cell? ⟨w.heap.size + 1 + 1, kn, none⟩ = some (.string hi) := (row_cell hSw.2.2).trans Hhi.out; go_simp)⟩) (by assumption) ?_
    try simp only [Act.put, List.getElem_toArray, List.getElem_cons_zero, List.getElem_cons_succ, List.setIfInBounds_toArray, List.set_cons_zero, List.set_cons_succ]
    refine wpAnyH_take (i := 4) (v := (.bool false)) rfl (by kernel_rfl) (by kernel_rfl) (by kernel_rfl) (fun _ _ _ h => h) (Or.inl ⟨by kernel_rfl, fun w' hSw => (by go_simp)⟩) (by assumption) ?_
    try simp only [Act.put, List.getElem_toArray, List.getElem_cons_zero, List.getElem_cons_succ, List.setIfInBounds_toArray, List.set_cons_zero, List.set_cons_succ]
    refine wpAnyH_take (i := 5) (v := (.bool false)) rfl (by kernel_rfl) (by kernel_rfl) (by kernel_rfl) (fun _ _ _ h => h) (Or.inl ⟨by kernel_rfl, fun w' hSw => (by go_simp)⟩) (by assumption) ?_
    try simp only [Act.put, List.getElem_toArray, List.getElem_cons_zero, List.getElem_cons_succ, List.setIfInBounds_toArray, List.set_cons_zero, List.set_cons_succ]
    refine wpAnyH_take (i := 6) (v := (.agg #[.bool n.1, .slice va n.2.1.length vc, .int .i64 n.2.2])) rfl (by kernel_rfl) (by kernel_rfl) (by kernel_rfl) (fun _ _ _ h => h) (yieldsIf_load_mid (by kernel_rfl) 43 _ rfl w.heap.size 0 rfl [.bool n.1, .slice va n.2.1.length vc, .int .i64 n.2.2] _ (fun W hW => rng3 hW.1) Tryz.underlying43 rfl (by kernel_rfl)) (by assumption) ?_
    try simp only [Act.put, List.getElem_toArray, List.getElem_cons_zero, List.getElem_cons_succ, List.setIfInBounds_toArray, List.set_cons_zero, List.set_cons_succ]
    refine wpAnyH_take (i := 7) (v := (.slice (some ⟨w.heap.size + 1 + 1, 0, none⟩) 24 24)) rfl (by kernel_rfl) (by kernel_rfl) (by kernel_rfl) (fun _ _ _ h => h) (Or.inl ⟨by kernel_rfl, fun w' hSw => (by go_simp)⟩) (by assumption) ?_
    try simp only [Act.put, List.getElem_toArray, List.getElem_cons_zero, List.getElem_cons_succ, List.setIfInBounds_toArray, List.set_cons_zero, List.set_cons_succ]
    refine wpAnyH_take (i := 8) (v := (.int .i64 (kn : Int))) rfl (by kernel_rfl) (by kernel_rfl) (by kernel_rfl) (fun _ _ _ h => h) (Or.inl ⟨by kernel_rfl, fun w' hSw => (by go_simp)⟩) (by assumption) ?_
    try simp only [Act.put, List.getElem_toArray, List.getElem_cons_zero, List.getElem_cons_succ, List.setIfInBounds_toArray, List.set_cons_zero, List.set_cons_succ]
    refine wpAnyH_take (i := 9) (v := (.pointer (some ⟨w.heap.size + 1 + 1, kn, none⟩))) rfl (by kernel_rfl) (by kernel_rfl) (by kernel_rfl) (fun _ _ _ h => h) (Or.inl ⟨by kernel_rfl, fun w' hSw => (by go_simp)⟩) (by assumption) ?_
    try simp only [Act.put, List.getElem_toArray, List.getElem_cons_zero, List.getElem_cons_succ, List.setIfInBounds_toArray, List.set_cons_zero, List.set_cons_succ]
    refine wpAnyH_take (i := 10) (v := (.string hi)) rfl (by kernel_rfl) (by kernel_rfl) (by kernel_rfl) (fun _ _ _ h => h) (Or.inl ⟨by kernel_rfl, fun w' hSw => (by have hc : w'.cell? ⟨w.heap.size + 1 + 1, kn, none⟩ = some (.string hi) := (row_cell hSw.2.2).trans Hhi.out; go_simp)⟩) (by assumption) ?_
    try simp only [Act.put, List.getElem_toArray, List.getElem_cons_zero, List.getElem_cons_succ, List.setIfInBounds_toArray, List.set_cons_zero, List.set_cons_succ]
    refine wpAnyH_ready (rs := [11]) (by kernel_rfl) (by simp) ?_
    refine AllReadyH.cons rfl (fun K hK => ?_) AllReadyH.nil
    go_simp
    refine Calls.mono (HPhi.out _) ?_
    rintro e w9 ⟨rv, rfl, hb9, hrv⟩
    have hbb := HB.out.trans (hb9.mono HB.out.size)
    have hS9 := HK.out _ hbb
    clear HB hHeld
    have HB : Hid _ := hbb
    have HRV : Hid (Dc.NmR w9 rv b2) := hrv
    clear hbb hb9 hrv
    go_wp2_with fail
    refine hK.out _ _ hS9 (fun hHeld => ?_)
    clear hK K hS9
    try simp only [Act.put, List.getElem_toArray, List.getElem_cons_zero, List.getElem_cons_succ, List.setIfInBounds_toArray, List.set_cons_zero, List.set_cons_succ]
    refine wpAnyH_ready (rs := [12]) (by kernel_rfl) (by simp) ?_
    refine AllReadyH.cons rfl (fun K hK => ?_) AllReadyH.nil
    go_simp
    have hcr := Dc.cmp_r (HN.out _ HB.out) HRV.out
    refine Calls.mono hcr ?_
    clear hcr
    rintro e w9 ⟨rfl, hb9⟩
    have hbb := HB.out.trans (hb9.mono HB.out.size)
    have hS9 := HK.out _ hbb
    clear HB hHeld HRV
    have HB : Hid _ := hbb
    clear hbb hb9
    go_wp2_with fail
    refine hK.out _ _ hS9 (fun hHeld => ?_)
    clear hK K hS9
    try simp only [Act.put, List.getElem_toArray, List.getElem_cons_zero, List.getElem_cons_succ, List.setIfInBounds_toArray, List.set_cons_zero, List.set_cons_succ]
    refine wpAnyH_take (i := 13) (v := (.bool (decide (Dc.cmpS n b2 ≤ 0)))) rfl (by kernel_rfl) (by kernel_rfl) (by kernel_rfl) (fun _ _ _ h => h) (Or.inl ⟨by kernel_rfl, fun w' hSw => (by go_simp)⟩) (by assumption) ?_
    try simp only [Act.put, List.getElem_toArray, List.getElem_cons_zero, List.getElem_cons_succ, List.setIfInBounds_toArray, List.set_cons_zero, List.set_cons_succ]
    refine wpAnyH_take (i := 14) (v := (.bool (decide (Dc.cmpS n b2 ≤ 0)))) rfl (by kernel_rfl) (by kernel_rfl) (by kernel_rfl) (fun _ _ _ h => h) (Or.inl ⟨by kernel_rfl, fun w' hSw => (by go_simp)⟩) (by assumption) ?_
    try simp only [Act.put, List.getElem_toArray, List.getElem_cons_zero, List.getElem_cons_succ, List.setIfInBounds_toArray, List.set_cons_zero, List.set_cons_succ]
    refine wpAnyH_take (i := 15) (v := (.bool (decide (Dc.cmpS n b2 ≤ 0)))) rfl (by kernel_rfl) (by kernel_rfl) (by kernel_rfl) (fun _ _ _ h => h) (Or.inl ⟨by kernel_rfl, fun w' hSw => (by go_simp)⟩) (by assumption) ?_
    try simp only [Act.put, List.getElem_toArray, List.getElem_cons_zero, List.getElem_cons_succ, List.setIfInBounds_toArray, List.set_cons_zero, List.set_cons_succ]
    refine wpAnyH_done (by kernel_rfl) ?_ _
    clear hHeld
    go_wp2_with fail
    go_ret
    exact ⟨ret_b (by rw [HC.out]; rfl), HU.out.trans (HB.out.mono HU.out.size)⟩
theorem tl_ne {a : ByteArray} (h : a.data.toList ≠ []) : a.toList ≠ [] := by rw [Lib.toList_data]; exact h
theorem tl_nil : (⟨#[]⟩ : ByteArray).toList = [] := by rw [Lib.toList_data]
theorem pb0 : Dc.parS (Dc.bl ⟨#[48]⟩) = .ok (false, [0], 0) := by rfl
theorem pb0c : Dc.CN (false, [0], 0) := (Dc.par_ok pb0).1
theorem pb0v : Dc.nv (false, [0], 0) 0 = 0 := by decide
theorem pb1 : Dc.parS (Dc.bl ⟨#[45, 49]⟩) = .ok (true, [1], 0) := by rfl
theorem pb1c : Dc.CN (true, [1], 0) := (Dc.par_ok pb1).1
theorem pb1v : Dc.nv (true, [1], 0) 0 = -1 := by decide
theorem pb2 : Dc.parS (Dc.bl ⟨#[49]⟩) = .ok (false, [1], 0) := by rfl
theorem pb2c : Dc.CN (false, [1], 0) := (Dc.par_ok pb2).1
theorem pb2v : Dc.nv (false, [1], 0) 0 = 1 := by decide
theorem pb3 : Dc.parS (Dc.bl ⟨#[45, 57, 50, 50, 51, 51, 55, 50, 48, 51, 54, 56, 53, 52, 55, 55, 53, 56, 48, 56]⟩) = .ok (true, [9, 2, 2, 3, 3, 7, 2, 0, 3, 6, 8, 5, 4, 7, 7, 5, 8, 0, 8], 0) := by rfl
theorem pb3c : Dc.CN (true, [9, 2, 2, 3, 3, 7, 2, 0, 3, 6, 8, 5, 4, 7, 7, 5, 8, 0, 8], 0) := (Dc.par_ok pb3).1
theorem pb3v : Dc.nv (true, [9, 2, 2, 3, 3, 7, 2, 0, 3, 6, 8, 5, 4, 7, 7, 5, 8, 0, 8], 0) 0 = -9223372036854775808 := by decide
theorem pb4 : Dc.parS (Dc.bl ⟨#[57, 50, 50, 51, 51, 55, 50, 48, 51, 54, 56, 53, 52, 55, 55, 53, 56, 48, 55]⟩) = .ok (false, [9, 2, 2, 3, 3, 7, 2, 0, 3, 6, 8, 5, 4, 7, 7, 5, 8, 0, 7], 0) := by rfl
theorem pb4c : Dc.CN (false, [9, 2, 2, 3, 3, 7, 2, 0, 3, 6, 8, 5, 4, 7, 7, 5, 8, 0, 7], 0) := (Dc.par_ok pb4).1
theorem pb4v : Dc.nv (false, [9, 2, 2, 3, 3, 7, 2, 0, 3, 6, 8, 5, 4, 7, 7, 5, 8, 0, 7], 0) 0 = 9223372036854775807 := by decide
theorem pb5 : Dc.parS (Dc.bl ⟨#[45, 50, 49, 52, 55, 52, 56, 51, 54, 52, 56]⟩) = .ok (true, [2, 1, 4, 7, 4, 8, 3, 6, 4, 8], 0) := by rfl
theorem pb5c : Dc.CN (true, [2, 1, 4, 7, 4, 8, 3, 6, 4, 8], 0) := (Dc.par_ok pb5).1
theorem pb5v : Dc.nv (true, [2, 1, 4, 7, 4, 8, 3, 6, 4, 8], 0) 0 = -2147483648 := by decide
theorem pb6 : Dc.parS (Dc.bl ⟨#[50, 49, 52, 55, 52, 56, 51, 54, 52, 55]⟩) = .ok (false, [2, 1, 4, 7, 4, 8, 3, 6, 4, 7], 0) := by rfl
theorem pb6c : Dc.CN (false, [2, 1, 4, 7, 4, 8, 3, 6, 4, 7], 0) := (Dc.par_ok pb6).1
theorem pb6v : Dc.nv (false, [2, 1, 4, 7, 4, 8, 3, 6, 4, 7], 0) 0 = 2147483647 := by decide
theorem pb7 : Dc.parS (Dc.bl ⟨#[45, 51, 50, 55, 54, 56]⟩) = .ok (true, [3, 2, 7, 6, 8], 0) := by rfl
theorem pb7c : Dc.CN (true, [3, 2, 7, 6, 8], 0) := (Dc.par_ok pb7).1
theorem pb7v : Dc.nv (true, [3, 2, 7, 6, 8], 0) 0 = -32768 := by decide
theorem pb8 : Dc.parS (Dc.bl ⟨#[51, 50, 55, 54, 55]⟩) = .ok (false, [3, 2, 7, 6, 7], 0) := by rfl
theorem pb8c : Dc.CN (false, [3, 2, 7, 6, 7], 0) := (Dc.par_ok pb8).1
theorem pb8v : Dc.nv (false, [3, 2, 7, 6, 7], 0) 0 = 32767 := by decide
theorem pb9 : Dc.parS (Dc.bl ⟨#[45, 49, 50, 56]⟩) = .ok (true, [1, 2, 8], 0) := by rfl
theorem pb9c : Dc.CN (true, [1, 2, 8], 0) := (Dc.par_ok pb9).1
theorem pb9v : Dc.nv (true, [1, 2, 8], 0) 0 = -128 := by decide
theorem pb10 : Dc.parS (Dc.bl ⟨#[49, 50, 55]⟩) = .ok (false, [1, 2, 7], 0) := by rfl
theorem pb10c : Dc.CN (false, [1, 2, 7], 0) := (Dc.par_ok pb10).1
theorem pb10v : Dc.nv (false, [1, 2, 7], 0) 0 = 127 := by decide
theorem pb11 : Dc.parS (Dc.bl ⟨#[49, 56, 52, 52, 54, 55, 52, 52, 48, 55, 51, 55, 48, 57, 53, 53, 49, 54, 49, 53]⟩) = .ok (false, [1, 8, 4, 4, 6, 7, 4, 4, 0, 7, 3, 7, 0, 9, 5, 5, 1, 6, 1, 5], 0) := by rfl
theorem pb11c : Dc.CN (false, [1, 8, 4, 4, 6, 7, 4, 4, 0, 7, 3, 7, 0, 9, 5, 5, 1, 6, 1, 5], 0) := (Dc.par_ok pb11).1
theorem pb11v : Dc.nv (false, [1, 8, 4, 4, 6, 7, 4, 4, 0, 7, 3, 7, 0, 9, 5, 5, 1, 6, 1, 5], 0) 0 = 18446744073709551615 := by decide
theorem pb12 : Dc.parS (Dc.bl ⟨#[52, 50, 57, 52, 57, 54, 55, 50, 57, 53]⟩) = .ok (false, [4, 2, 9, 4, 9, 6, 7, 2, 9, 5], 0) := by rfl
theorem pb12c : Dc.CN (false, [4, 2, 9, 4, 9, 6, 7, 2, 9, 5], 0) := (Dc.par_ok pb12).1
theorem pb12v : Dc.nv (false, [4, 2, 9, 4, 9, 6, 7, 2, 9, 5], 0) 0 = 4294967295 := by decide
theorem pb13 : Dc.parS (Dc.bl ⟨#[54, 53, 53, 51, 53]⟩) = .ok (false, [6, 5, 5, 3, 5], 0) := by rfl
theorem pb13c : Dc.CN (false, [6, 5, 5, 3, 5], 0) := (Dc.par_ok pb13).1
theorem pb13v : Dc.nv (false, [6, 5, 5, 3, 5], 0) 0 = 65535 := by decide
theorem pb14 : Dc.parS (Dc.bl ⟨#[50, 53, 53]⟩) = .ok (false, [2, 5, 5], 0) := by rfl
theorem pb14c : Dc.CN (false, [2, 5, 5], 0) := (Dc.par_ok pb14).1
theorem pb14v : Dc.nv (false, [2, 5, 5], 0) 0 = 255 := by decide
theorem within_11 {w : World} {v : Value} {n : Dc.Nm} (hn : Dc.NmR w v n) (h0 : n.2.2 = 0) : Calls Tryz.prog 43 #[.int .i64 11, Dc.nmV n.1 v n.2.2] w fun e w' => e = .returned (.bool (wiB 11 (Dc.nv n 0))) ∧ Below w.heap.size w w' := by
  have h := within_nn hn 11 (by decide) ⟨#[]⟩ ⟨#[]⟩ rfl rfl tl_nil tl_nil
  refine Calls.mono h ?_
  rintro e w' ⟨rfl, hb⟩
  refine ⟨ret_b ?_, hb⟩
  unfold wiB
  rw [Bool.eq_iff_iff]
  simp
theorem within_12 {w : World} {v : Value} {n : Dc.Nm} (hn : Dc.NmR w v n) (h0 : n.2.2 = 0) : Calls Tryz.prog 43 #[.int .i64 12, Dc.nmV n.1 v n.2.2] w fun e w' => e = .returned (.bool (wiB 12 (Dc.nv n 0))) ∧ Below w.heap.size w w' := by
  have h := within_ns hn 12 (by decide) ⟨#[]⟩ ⟨#[48]⟩ rfl rfl tl_nil (by decide) (tl_ne (by decide)) pb0
  refine Calls.mono h ?_
  rintro e w' ⟨rfl, hb⟩
  refine ⟨ret_b ?_, hb⟩
  have hh := (cmp_whole hn.cn h0 pb0c rfl).2
  rw [pb0v] at hh
  unfold wiB
  rw [Bool.eq_iff_iff]
  simp
  omega
theorem within_13 {w : World} {v : Value} {n : Dc.Nm} (hn : Dc.NmR w v n) (h0 : n.2.2 = 0) : Calls Tryz.prog 43 #[.int .i64 13, Dc.nmV n.1 v n.2.2] w fun e w' => e = .returned (.bool (wiB 13 (Dc.nv n 0))) ∧ Below w.heap.size w w' := by
  have h := within_ns hn 13 (by decide) ⟨#[]⟩ ⟨#[45, 49]⟩ rfl rfl tl_nil (by decide) (tl_ne (by decide)) pb1
  refine Calls.mono h ?_
  rintro e w' ⟨rfl, hb⟩
  refine ⟨ret_b ?_, hb⟩
  have hh := (cmp_whole hn.cn h0 pb1c rfl).2
  rw [pb1v] at hh
  unfold wiB
  rw [Bool.eq_iff_iff]
  simp
  omega
theorem within_14 {w : World} {v : Value} {n : Dc.Nm} (hn : Dc.NmR w v n) (h0 : n.2.2 = 0) : Calls Tryz.prog 43 #[.int .i64 14, Dc.nmV n.1 v n.2.2] w fun e w' => e = .returned (.bool (wiB 14 (Dc.nv n 0))) ∧ Below w.heap.size w w' := by
  have h := within_sn hn 14 (by decide) ⟨#[48]⟩ ⟨#[]⟩ rfl rfl (by decide) (tl_ne (by decide)) pb0 tl_nil
  refine Calls.mono h ?_
  rintro e w' ⟨rfl, hb⟩
  refine ⟨ret_b ?_, hb⟩
  have hl := (cmp_whole hn.cn h0 pb0c rfl).1
  rw [pb0v] at hl
  unfold wiB
  rw [Bool.eq_iff_iff]
  simp
  omega
theorem within_15 {w : World} {v : Value} {n : Dc.Nm} (hn : Dc.NmR w v n) (h0 : n.2.2 = 0) : Calls Tryz.prog 43 #[.int .i64 15, Dc.nmV n.1 v n.2.2] w fun e w' => e = .returned (.bool (wiB 15 (Dc.nv n 0))) ∧ Below w.heap.size w w' := by
  have h := within_sn hn 15 (by decide) ⟨#[49]⟩ ⟨#[]⟩ rfl rfl (by decide) (tl_ne (by decide)) pb2 tl_nil
  refine Calls.mono h ?_
  rintro e w' ⟨rfl, hb⟩
  refine ⟨ret_b ?_, hb⟩
  have hl := (cmp_whole hn.cn h0 pb2c rfl).1
  rw [pb2v] at hl
  unfold wiB
  rw [Bool.eq_iff_iff]
  simp
  omega
theorem within_16 {w : World} {v : Value} {n : Dc.Nm} (hn : Dc.NmR w v n) (h0 : n.2.2 = 0) : Calls Tryz.prog 43 #[.int .i64 16, Dc.nmV n.1 v n.2.2] w fun e w' => e = .returned (.bool (wiB 16 (Dc.nv n 0))) ∧ Below w.heap.size w w' := by
  have h := within_ss hn 16 (by decide) ⟨#[45, 57, 50, 50, 51, 51, 55, 50, 48, 51, 54, 56, 53, 52, 55, 55, 53, 56, 48, 56]⟩ ⟨#[57, 50, 50, 51, 51, 55, 50, 48, 51, 54, 56, 53, 52, 55, 55, 53, 56, 48, 55]⟩ rfl rfl (by decide) (tl_ne (by decide)) pb3 (by decide) (tl_ne (by decide)) pb4
  refine Calls.mono h ?_
  rintro e w' ⟨rfl, hb⟩
  refine ⟨ret_b ?_, hb⟩
  have hl := (cmp_whole hn.cn h0 pb3c rfl).1
  rw [pb3v] at hl
  have hh := (cmp_whole hn.cn h0 pb4c rfl).2
  rw [pb4v] at hh
  unfold wiB
  rw [Bool.eq_iff_iff]
  simp
  omega
theorem within_17 {w : World} {v : Value} {n : Dc.Nm} (hn : Dc.NmR w v n) (h0 : n.2.2 = 0) : Calls Tryz.prog 43 #[.int .i64 17, Dc.nmV n.1 v n.2.2] w fun e w' => e = .returned (.bool (wiB 17 (Dc.nv n 0))) ∧ Below w.heap.size w w' := by
  have h := within_ss hn 17 (by decide) ⟨#[45, 50, 49, 52, 55, 52, 56, 51, 54, 52, 56]⟩ ⟨#[50, 49, 52, 55, 52, 56, 51, 54, 52, 55]⟩ rfl rfl (by decide) (tl_ne (by decide)) pb5 (by decide) (tl_ne (by decide)) pb6
  refine Calls.mono h ?_
  rintro e w' ⟨rfl, hb⟩
  refine ⟨ret_b ?_, hb⟩
  have hl := (cmp_whole hn.cn h0 pb5c rfl).1
  rw [pb5v] at hl
  have hh := (cmp_whole hn.cn h0 pb6c rfl).2
  rw [pb6v] at hh
  unfold wiB
  rw [Bool.eq_iff_iff]
  simp
  omega
theorem within_18 {w : World} {v : Value} {n : Dc.Nm} (hn : Dc.NmR w v n) (h0 : n.2.2 = 0) : Calls Tryz.prog 43 #[.int .i64 18, Dc.nmV n.1 v n.2.2] w fun e w' => e = .returned (.bool (wiB 18 (Dc.nv n 0))) ∧ Below w.heap.size w w' := by
  have h := within_ss hn 18 (by decide) ⟨#[45, 51, 50, 55, 54, 56]⟩ ⟨#[51, 50, 55, 54, 55]⟩ rfl rfl (by decide) (tl_ne (by decide)) pb7 (by decide) (tl_ne (by decide)) pb8
  refine Calls.mono h ?_
  rintro e w' ⟨rfl, hb⟩
  refine ⟨ret_b ?_, hb⟩
  have hl := (cmp_whole hn.cn h0 pb7c rfl).1
  rw [pb7v] at hl
  have hh := (cmp_whole hn.cn h0 pb8c rfl).2
  rw [pb8v] at hh
  unfold wiB
  rw [Bool.eq_iff_iff]
  simp
  omega
theorem within_19 {w : World} {v : Value} {n : Dc.Nm} (hn : Dc.NmR w v n) (h0 : n.2.2 = 0) : Calls Tryz.prog 43 #[.int .i64 19, Dc.nmV n.1 v n.2.2] w fun e w' => e = .returned (.bool (wiB 19 (Dc.nv n 0))) ∧ Below w.heap.size w w' := by
  have h := within_ss hn 19 (by decide) ⟨#[45, 49, 50, 56]⟩ ⟨#[49, 50, 55]⟩ rfl rfl (by decide) (tl_ne (by decide)) pb9 (by decide) (tl_ne (by decide)) pb10
  refine Calls.mono h ?_
  rintro e w' ⟨rfl, hb⟩
  refine ⟨ret_b ?_, hb⟩
  have hl := (cmp_whole hn.cn h0 pb9c rfl).1
  rw [pb9v] at hl
  have hh := (cmp_whole hn.cn h0 pb10c rfl).2
  rw [pb10v] at hh
  unfold wiB
  rw [Bool.eq_iff_iff]
  simp
  omega
theorem within_20 {w : World} {v : Value} {n : Dc.Nm} (hn : Dc.NmR w v n) (h0 : n.2.2 = 0) : Calls Tryz.prog 43 #[.int .i64 20, Dc.nmV n.1 v n.2.2] w fun e w' => e = .returned (.bool (wiB 20 (Dc.nv n 0))) ∧ Below w.heap.size w w' := by
  have h := within_ss hn 20 (by decide) ⟨#[48]⟩ ⟨#[49, 56, 52, 52, 54, 55, 52, 52, 48, 55, 51, 55, 48, 57, 53, 53, 49, 54, 49, 53]⟩ rfl rfl (by decide) (tl_ne (by decide)) pb0 (by decide) (tl_ne (by decide)) pb11
  refine Calls.mono h ?_
  rintro e w' ⟨rfl, hb⟩
  refine ⟨ret_b ?_, hb⟩
  have hl := (cmp_whole hn.cn h0 pb0c rfl).1
  rw [pb0v] at hl
  have hh := (cmp_whole hn.cn h0 pb11c rfl).2
  rw [pb11v] at hh
  unfold wiB
  rw [Bool.eq_iff_iff]
  simp
  omega
theorem within_21 {w : World} {v : Value} {n : Dc.Nm} (hn : Dc.NmR w v n) (h0 : n.2.2 = 0) : Calls Tryz.prog 43 #[.int .i64 21, Dc.nmV n.1 v n.2.2] w fun e w' => e = .returned (.bool (wiB 21 (Dc.nv n 0))) ∧ Below w.heap.size w w' := by
  have h := within_ss hn 21 (by decide) ⟨#[48]⟩ ⟨#[52, 50, 57, 52, 57, 54, 55, 50, 57, 53]⟩ rfl rfl (by decide) (tl_ne (by decide)) pb0 (by decide) (tl_ne (by decide)) pb12
  refine Calls.mono h ?_
  rintro e w' ⟨rfl, hb⟩
  refine ⟨ret_b ?_, hb⟩
  have hl := (cmp_whole hn.cn h0 pb0c rfl).1
  rw [pb0v] at hl
  have hh := (cmp_whole hn.cn h0 pb12c rfl).2
  rw [pb12v] at hh
  unfold wiB
  rw [Bool.eq_iff_iff]
  simp
  omega
theorem within_22 {w : World} {v : Value} {n : Dc.Nm} (hn : Dc.NmR w v n) (h0 : n.2.2 = 0) : Calls Tryz.prog 43 #[.int .i64 22, Dc.nmV n.1 v n.2.2] w fun e w' => e = .returned (.bool (wiB 22 (Dc.nv n 0))) ∧ Below w.heap.size w w' := by
  have h := within_ss hn 22 (by decide) ⟨#[48]⟩ ⟨#[54, 53, 53, 51, 53]⟩ rfl rfl (by decide) (tl_ne (by decide)) pb0 (by decide) (tl_ne (by decide)) pb13
  refine Calls.mono h ?_
  rintro e w' ⟨rfl, hb⟩
  refine ⟨ret_b ?_, hb⟩
  have hl := (cmp_whole hn.cn h0 pb0c rfl).1
  rw [pb0v] at hl
  have hh := (cmp_whole hn.cn h0 pb13c rfl).2
  rw [pb13v] at hh
  unfold wiB
  rw [Bool.eq_iff_iff]
  simp
  omega
theorem within_23 {w : World} {v : Value} {n : Dc.Nm} (hn : Dc.NmR w v n) (h0 : n.2.2 = 0) : Calls Tryz.prog 43 #[.int .i64 23, Dc.nmV n.1 v n.2.2] w fun e w' => e = .returned (.bool (wiB 23 (Dc.nv n 0))) ∧ Below w.heap.size w w' := by
  have h := within_ss hn 23 (by decide) ⟨#[48]⟩ ⟨#[50, 53, 53]⟩ rfl rfl (by decide) (tl_ne (by decide)) pb0 (by decide) (tl_ne (by decide)) pb14
  refine Calls.mono h ?_
  rintro e w' ⟨rfl, hb⟩
  refine ⟨ret_b ?_, hb⟩
  have hl := (cmp_whole hn.cn h0 pb0c rfl).1
  rw [pb0v] at hl
  have hh := (cmp_whole hn.cn h0 pb14c rfl).2
  rw [pb14v] at hh
  unfold wiB
  rw [Bool.eq_iff_iff]
  simp
  omega
theorem within_r {w : World} {v : Value} {n : Dc.Nm} (k : Int) (k0 : 11 ≤ k) (k1 : k ≤ 23) (hn : Dc.NmR w v n) (h0 : n.2.2 = 0) : Calls Tryz.prog 43 #[.int .i64 k, Dc.nmV n.1 v n.2.2] w fun e w' => e = .returned (.bool (wiB k (Dc.nv n 0))) ∧ Below w.heap.size w w' := by
  rcases (by omega : k = 11 ∨ k = 12 ∨ k = 13 ∨ k = 14 ∨ k = 15 ∨ k = 16 ∨ k = 17 ∨ k = 18 ∨ k = 19 ∨ k = 20 ∨ k = 21 ∨ k = 22 ∨ k = 23) with rfl | rfl | rfl | rfl | rfl | rfl | rfl | rfl | rfl | rfl | rfl | rfl | rfl
  · exact within_11 hn h0
  · exact within_12 hn h0
  · exact within_13 hn h0
  · exact within_14 hn h0
  · exact within_15 hn h0
  · exact within_16 hn h0
  · exact within_17 hn h0
  · exact within_18 hn h0
  · exact within_19 hn h0
  · exact within_20 hn h0
  · exact within_21 hn h0
  · exact within_22 hn h0
  · exact within_23 hn h0
end Go.Proofs.YtgaegajcejpmdaaGreatDoor
namespace Go.Proofs.YtgaegajcejpmdaaGreatDoor
open Go.RowKit
set_option linter.unusedVariables false
set_option linter.unusedSimpArgs false

theorem fields_own (l : List Int) (hl : l.length ≤ 10) (h0 : 0 < l.length) (hI : ∀ n ∈ l, I64 n) (W : World) (base : Nat) (v : Value) (ho : W.ownsRow base 3 1 v l.length (inV l)) :
    Calls Tryz.prog 48 #[v] W fun e w' => e = .returned (.string (flT l)) ∧ Below W.heap.size W w' := by
  obtain ⟨h1, h2⟩ := ho
  rcases h2 with ⟨_, h⟩ | ⟨g, cap, cur, rfl, h3, h4, h5, h6, h7, h8⟩
  · omega
  · have hown : W.ownsRow base 3 1 (.slice (some ⟨g, 0, none⟩) l.length cap) l.length (inV l) := ⟨h1, .inr ⟨g, cap, cur, rfl, h3, h4, h5, h6, h7, h8⟩⟩
    refine fields_r l g cap W hl hI (M.lt_of h4) (fun j hj => ?_)
    have := World.ownsRow.cells (g := g) hown rfl j (.int .i64 l[j]) (by simp [inV, hj])
    rw [Addr.add_lit, Nat.zero_add] at this
    exact this
theorem cells3 {W : World} {X : Nat} {a0 a1 a2 a3 a4 a5 a6 a7 a8 a9 a10 a11 a12 a13 a14 a15 : Value} {t : TypeId} (h : W.heap[X]? = some (.cells #[a0, a1, a2, a3, a4, a5, a6, a7, a8, a9, a10, a11, a12, a13, a14, a15] t (0, 0))) : W.cell? ⟨X, 13, none⟩ = some a13 ∧ W.cell? ⟨X, 14, none⟩ = some a14 ∧ W.cell? ⟨X, 15, none⟩ = some a15 := ⟨row_cell h, row_cell h, row_cell h⟩
set_option maxRecDepth 100000 in
set_option maxHeartbeats 6400000 in
theorem rtext_spn (t1 : ByteArray) (g1 : Bool) (a1 : Option Addr) (b1 c1 : Nat) (s1 : Int) (m1 : Dt.Mo) (q1 : Dt.Sp) {w : World} (l1 : Dt.SpT q1) : Calls Tryz.prog 25 #[vlV 32 t1 g1 (.slice a1 b1 c1) s1 m1 q1] w fun e w' => e = .returned (.string (rowT 32 (spF q1))) ∧ Below w.heap.size w w' := by
  rw [row_fl]
  have HF : Hid _ := fields_own (spF q1) (by simp [spF]) (by simp [spF]) (sp_I l1)
  have HN : Hid _ := fun W hW => own_new W (spF q1) w.heap.size hW (by simp [spF])
  have hs1 := nm_size 32
  have hs2 : (flT (spF q1)).size ≤ 50000 := by
    have := fl_size (spF q1) (sp_I l1)
    have e : (spF q1).length = 3 := rfl
    rw [e] at this
    omega
  obtain ⟨nn, hnn⟩ : ∃ nn, nmS 32 = nn := ⟨_, rfl⟩
  rw [hnn] at hs1 ⊢
  clear l1
  go_enter Tryz.func25, Tryz.ntmps25
  go_upto_region 6 with fail
  have hx := M.nw_heap w (.cells #[.int .i64 32, .string t1, .bool g1, .slice a1 b1 c1, .int .i64 s1, .int .i64 m1.k, .int .i64 m1.y, .int .i64 m1.m, .int .i64 m1.d, .int .i64 m1.s, .int .i64 m1.n, .bool m1.hz, .int .i64 m1.z, .int .i64 q1.o, .int .i64 q1.s, .int .i64 q1.n] 47)
  have hb0 : Below w.heap.size w (w.alloc (.cells #[.int .i64 32, .string t1, .bool g1, .slice a1 b1 c1, .int .i64 s1, .int .i64 m1.k, .int .i64 m1.y, .int .i64 m1.m, .int .i64 m1.d, .int .i64 m1.s, .int .i64 m1.n, .bool m1.hz, .int .i64 m1.z, .int .i64 q1.o, .int .i64 q1.s, .int .i64 q1.n] 47)) := (Below.refl _ _).alloc (Nat.le_refl _) _
  obtain ⟨U, hU⟩ : ∃ U, w.alloc (.cells #[.int .i64 32, .string t1, .bool g1, .slice a1 b1 c1, .int .i64 s1, .int .i64 m1.k, .int .i64 m1.y, .int .i64 m1.m, .int .i64 m1.d, .int .i64 m1.s, .int .i64 m1.n, .bool m1.hz, .int .i64 m1.z, .int .i64 q1.o, .int .i64 q1.s, .int .i64 q1.n] 47) = U := ⟨_, rfl⟩
  rw [hU] at hx hb0 ⊢
  clear hU
  have HK : Hid _ := fun W (hW : Below U.heap.size U W) => cells3 ((hW.block _ (Dc.lt_of hx)).trans hx)
  have HU : Hid _ := hb0
  have HNM : Hid _ := fun W => name_r 32 W
  rw [hnn] at HNM
  have HB : Hid (Below U.heap.size U U.drew) := Dc.Below.drewN' 1
  have HBA : Hid (Below U.heap.size U (U.alloc (.cells #[.int .i64 q1.o, .int .i64 q1.s, .int .i64 q1.n] 3)).drew) := (bel1' (Below.refl U.heap.size U) _).drew
  have HOA : Hid ((U.alloc (.cells #[.int .i64 q1.o, .int .i64 q1.s, .int .i64 q1.n] 3)).drew.ownsRow w.heap.size 3 1 (.slice (some ⟨U.heap.size, 0, none⟩) 3 3) 3 (inV (spF q1))) := HN.out U HU.out.size _ rfl
  have hnot : ¬ (9223372036854775807 < nn.size + (flT (spF q1)).size) := by omega
  obtain ⟨y0, y1, y2⟩ := HK.out _ HB.out
  clear hb0 hx
  go_region_held3 (fun W => W.cell? ⟨w.heap.size, 13, none⟩ = some (.int .i64 q1.o) ∧ W.cell? ⟨w.heap.size, 14, none⟩ = some (.int .i64 q1.s) ∧ W.cell? ⟨w.heap.size, 15, none⟩ = some (.int .i64 q1.n)) (first | with_reducible exact HK.out _ HB.out | with_reducible exact HK.out _ (bel1' HB.out _) | with_reducible exact HK.out _ HBA.out | fail) (first
    | (go_at_call 12; (first | ((with_reducible refine Calls.mono (HNM.out U.drew) ?_); rintro e w9 ⟨rfl, hb9⟩; have hbb := HB.out.trans (hb9.mono HB.out.size); clear HB; have HB : Hid (Below U.heap.size U w9) := hbb; clear hbb hb9) | ((with_reducible refine Calls.mono (HNM.out (U.alloc (.cells #[.int .i64 q1.o, .int .i64 q1.s, .int .i64 q1.n] 3)).drew) ?_); rintro e w9 ⟨rfl, hb9⟩; have hbb := HBA.out.trans (hb9.mono HBA.out.size); have HO9 : Hid (w9.ownsRow w.heap.size 3 1 (.slice (some ⟨U.heap.size, 0, none⟩) 3 3) 3 (inV (spF q1))) := M.row_below HOA.out hb9; clear HB; have HB : Hid (Below U.heap.size U w9) := hbb; clear hbb hb9)))
    | (go_at_call 48; (first | (refine Calls.mono (HF.out _ _ _ HO9.out) ?_; rintro e w10 ⟨rfl, hb9⟩; have hbb := HB.out.trans (hb9.mono HB.out.size); clear HB; have HB : Hid (Below U.heap.size U w10) := hbb; clear hbb hb9) | (refine Calls.mono (HF.out _ _ _ (HN.out _ (HU.out.trans (HB.out.mono HU.out.size)).size _ rfl)) ?_; rintro e w10 ⟨rfl, hb9⟩; have hb8 := bel1' HB.out (.cells (inV (spF q1)).toArray 3); have hbb := hb8.trans (hb9.mono hb8.size); clear HB hb8; have HB : Hid (Below U.heap.size U w10) := hbb; clear hbb hb9)))
    | fail)
  all_goals
    go_wp2_with fail
    go_ret
    exact ⟨rfl, HU.out.trans (HB.out.mono HU.out.size)⟩
theorem cells8 {W : World} {X Y : Nat} {a0 a1 a2 a3 a4 a5 a6 a7 : Value} {l : List Value} {t t' : TypeId} (hx : W.heap[X]? = some (.cells (a0 :: l).toArray t (0, 0))) {b : Value} (hy : W.heap[Y]? = some (.cells #[b, a1, a2, a3, a4, a5, a6, a7] t' (0, 0))) : W.cell? ⟨X, 0, none⟩ = some a0 ∧ W.cell? ⟨Y, 1, none⟩ = some a1 ∧ W.cell? ⟨Y, 2, none⟩ = some a2 ∧ W.cell? ⟨Y, 3, none⟩ = some a3 ∧ W.cell? ⟨Y, 4, none⟩ = some a4 ∧ W.cell? ⟨Y, 5, none⟩ = some a5 := ⟨row_cell hx, row_cell hy, row_cell hy, row_cell hy, row_cell hy, row_cell hy⟩
theorem cells67 {W : World} {Y : Nat} {b a1 a2 a3 a4 a5 a6 a7 : Value} {t' : TypeId} (hy : W.heap[Y]? = some (.cells #[b, a1, a2, a3, a4, a5, a6, a7] t' (0, 0))) : W.cell? ⟨Y, 6, none⟩ = some a6 ∧ W.cell? ⟨Y, 7, none⟩ = some a7 := ⟨row_cell hy, row_cell hy⟩
set_option maxRecDepth 100000 in
set_option maxHeartbeats 1600000 in
theorem rtext_t (p : Int) (h : p = 1 ∨ p = 9) (t : ByteArray) (g : Bool) (a : Option Addr) (b c : Nat) (s : Int) (m : Dt.Mo) (q : Dt.Sp) (w : World) : Calls Tryz.prog 25 #[vlV p t g (.slice a b c) s m q] w fun e w' => e = .returned (.string t) ∧ Below w.heap.size w w' := by
  have hb : Below w.heap.size w (w.alloc (.cells #[.int .i64 p, .string t, .bool g, .slice a b c, .int .i64 s, .int .i64 m.k, .int .i64 m.y, .int .i64 m.m, .int .i64 m.d, .int .i64 m.s, .int .i64 m.n, .bool m.hz, .int .i64 m.z, .int .i64 q.o, .int .i64 q.s, .int .i64 q.n] 47)) := (Below.refl _ _).alloc (Nat.le_refl _) _
  rcases h with rfl | rfl
  all_goals
    have HB : Hid _ := hb
    clear hb
    go_enter Tryz.func25, Tryz.ntmps25
    go_wp2_with fail
    go_ret
    exact ⟨rfl, HB.out⟩
set_option maxRecDepth 100000 in
set_option maxHeartbeats 1600000 in
theorem rtext_n {w : World} {v : Value} {n : Dc.Nm} (tx : ByteArray) (m : Dt.Mo) (q : Dt.Sp) (h : Dc.NmR w v n) : Calls Tryz.prog 25 #[vlV 10 tx n.1 v n.2.2 m q] w fun e w' => e = .returned (.string (Dc.sb (Dc.txS n))) ∧ Below w.heap.size w w' := by
  obtain ⟨va, vc, rfl, _⟩ := h.bt.form
  have hbx := BX.new w 47 (vlL 10 tx n.1 (.slice va n.2.1.length vc) n.2.2 m q)
  have ht := fun W (hW : Below w.heap.size w W) => Dc.text_r (h.below hW)
  have HT : Hid _ := And.intro ht hbx.bel
  clear ht h hbx
  go_enter Tryz.func25, Tryz.ntmps25
  go_wp2_with (go_at_call 47; refine Calls.mono (HT.out.1 _ HT.out.2) ?_; rintro e w9 ⟨rfl, hb9⟩)
  go_ret
  exact ⟨rfl, HT.out.2.trans (hb9.mono HT.out.2.size)⟩
set_option maxRecDepth 100000 in
set_option maxHeartbeats 6400000 in
theorem rtext_mmf (k : Int) (h0 : 24 ≤ k) (h1 : k ≤ 31) (t1 : ByteArray) (g1 : Bool) (a1 : Option Addr) (b1 c1 : Nat) (s1 mk my mm md ms mn mz : Int) (q1 : Dt.Sp) {w : World} (hI : ∀ n ∈ [my, mm, md, ms, mn], I64 n) : Calls Tryz.prog 25 #[vlV k t1 g1 (.slice a1 b1 c1) s1 ⟨mk, my, mm, md, ms, mn, false, mz⟩ q1] w fun e w' => e = .returned (.string (rowT k [my, mm, md, ms, mn])) ∧ Below w.heap.size w w' := by
  have hI5 := hI
  rw [row_fl]
  have HF : Hid _ := fields_own [my, mm, md, ms, mn] (by simp) (by simp) hI5
  have HN : Hid _ := fun W hW => own_new W [my, mm, md, ms, mn] w.heap.size hW (by simp)
  have hs1 := nm_size k
  have hs5 := fl_size [my, mm, md, ms, mn] hI5
  simp only [List.length_cons, List.length_nil] at hs5
  obtain ⟨nn, hnn⟩ : ∃ nn, nmS k = nn := ⟨_, rfl⟩
  obtain ⟨f5, hf5⟩ : ∃ nn, flT [my, mm, md, ms, mn] = nn := ⟨_, rfl⟩
  rw [hnn] at hs1
  rw [hf5] at hs5
  have HNM : Hid _ := fun W => name_r k W
  rw [hnn] at HNM
  rw [hf5] at HF
  rw [hnn, hf5]
  clear hI hI5 hnn hf5
  have q1' : (k == 1) = false := by simp; omega
  have q9 : (k == 9) = false := by simp; omega
  have q10 : (k == 10) = false := by simp; omega
  have q32 : (k == 32) = false := by simp; omega
  have q24 : decide (24 ≤ k) = true := by simpa using h0
  have q31 : decide (k ≤ 31) = true := by simpa using h1
  have hnot : ¬ (9223372036854775807 < nn.size + f5.size) := by omega
  obtain ⟨hx, hy, hb0⟩ := box_two w (.cells #[.int .i64 k, .string t1, .bool g1, .slice a1 b1 c1, .int .i64 s1, .int .i64 mk, .int .i64 my, .int .i64 mm, .int .i64 md, .int .i64 ms, .int .i64 mn, .bool false, .int .i64 mz, .int .i64 q1.o, .int .i64 q1.s, .int .i64 q1.n] 47) (.cells #[.int .i64 mk, .int .i64 my, .int .i64 mm, .int .i64 md, .int .i64 ms, .int .i64 mn, .bool false, .int .i64 mz] 44)
  go_enter Tryz.func25, Tryz.ntmps25
  obtain ⟨U, hU⟩ : ∃ U, (w.alloc (.cells #[.int .i64 k, .string t1, .bool g1, .slice a1 b1 c1, .int .i64 s1, .int .i64 mk, .int .i64 my, .int .i64 mm, .int .i64 md, .int .i64 ms, .int .i64 mn, .bool false, .int .i64 mz, .int .i64 q1.o, .int .i64 q1.s, .int .i64 q1.n] 47)).alloc (.cells #[.int .i64 mk, .int .i64 my, .int .i64 mm, .int .i64 md, .int .i64 ms, .int .i64 mn, .bool false, .int .i64 mz] 44) = U := ⟨_, rfl⟩
  rw [hU] at hx hy hb0
  go_upto_region 9 with fail
  try rw [hU]
  clear hU
  have HK : Hid _ := fun W (hW : Below U.heap.size U W) => cells8 ((hW.block _ (Dc.lt_of hx)).trans hx) ((hW.block _ (Dc.lt_of hy)).trans hy)
  have HK2 : Hid _ := fun W (hW : Below U.heap.size U W) => cells67 ((hW.block _ (Dc.lt_of hy)).trans hy)
  have HU : Hid _ := hb0
  have HB : Hid (Below U.heap.size U U.drew) := Dc.Below.drewN' 1
  have HBA : Hid (Below U.heap.size U (U.alloc (.cells #[.int .i64 my, .int .i64 mm, .int .i64 md, .int .i64 ms, .int .i64 mn] 3)).drew) := (bel1' (Below.refl U.heap.size U) _).drew
  have HOA : Hid ((U.alloc (.cells #[.int .i64 my, .int .i64 mm, .int .i64 md, .int .i64 ms, .int .i64 mn] 3)).drew.ownsRow w.heap.size 3 1 (.slice (some ⟨U.heap.size, 0, none⟩) 5 5) 5 (inV [my, mm, md, ms, mn])) := HN.out U HU.out.size _ rfl
  obtain ⟨y0, y1, y2, y3, y4, y5⟩ := HK.out _ HB.out
  clear hb0 hx hy
  go_region_held3 (fun W => W.cell? ⟨w.heap.size, 0, none⟩ = some (.int .i64 k) ∧ W.cell? ⟨w.heap.size + 1, 1, none⟩ = some (.int .i64 my) ∧ W.cell? ⟨w.heap.size + 1, 2, none⟩ = some (.int .i64 mm) ∧ W.cell? ⟨w.heap.size + 1, 3, none⟩ = some (.int .i64 md) ∧ W.cell? ⟨w.heap.size + 1, 4, none⟩ = some (.int .i64 ms) ∧ W.cell? ⟨w.heap.size + 1, 5, none⟩ = some (.int .i64 mn)) (first | with_reducible exact HK.out _ HB.out | with_reducible exact HK.out _ (bel1' HB.out _) | with_reducible exact HK.out _ HBA.out | fail) (first
    | (go_at_call 12; (first | ((with_reducible refine Calls.mono (HNM.out U.drew) ?_); rintro e w9 ⟨rfl, hb9⟩; have hbb := HB.out.trans (hb9.mono HB.out.size); clear HB; have HB : Hid (Below U.heap.size U w9) := hbb; clear hbb hb9) | ((with_reducible refine Calls.mono (HNM.out (U.alloc (.cells #[.int .i64 my, .int .i64 mm, .int .i64 md, .int .i64 ms, .int .i64 mn] 3)).drew) ?_); rintro e w9 ⟨rfl, hb9⟩; have hbb := HBA.out.trans (hb9.mono HBA.out.size); have HO9 : Hid (w9.ownsRow w.heap.size 3 1 (.slice (some ⟨U.heap.size, 0, none⟩) 5 5) 5 (inV [my, mm, md, ms, mn])) := M.row_below HOA.out hb9; clear HB; have HB : Hid (Below U.heap.size U w9) := hbb; clear hbb hb9)))
    | (go_at_call 48; (first | (refine Calls.mono (HF.out _ _ _ HO9.out) ?_; rintro e w10 ⟨rfl, hb9⟩; have hbb := HB.out.trans (hb9.mono HB.out.size); clear HB; have HB : Hid (Below U.heap.size U w10) := hbb; clear hbb hb9) | (refine Calls.mono (HF.out _ _ _ (HN.out _ (HU.out.trans (HB.out.mono HU.out.size)).size _ rfl)) ?_; rintro e w10 ⟨rfl, hb9⟩; have hb8 := bel1' HB.out (.cells (inV [my, mm, md, ms, mn]).toArray 3); have hbb := hb8.trans (hb9.mono hb8.size); clear HB hb8; have HB : Hid (Below U.heap.size U w10) := hbb; clear hbb hb9)))
    | fail)
  all_goals
    have hz67 := HK2.out _ HB.out
    obtain ⟨z6, z7⟩ := hz67
    go_wp2_with fail
    go_ret
    exact ⟨rfl, HU.out.trans (HB.out.mono HU.out.size)⟩
set_option maxRecDepth 100000 in
set_option maxHeartbeats 6400000 in
theorem rtext_mmt (k : Int) (h0 : 24 ≤ k) (h1 : k ≤ 31) (t1 : ByteArray) (g1 : Bool) (a1 : Option Addr) (b1 c1 : Nat) (s1 mk my mm md ms mn mz : Int) (q1 : Dt.Sp) {w : World} (hI : ∀ n ∈ [my, mm, md, ms, mn, mz], I64 n) : Calls Tryz.prog 25 #[vlV k t1 g1 (.slice a1 b1 c1) s1 ⟨mk, my, mm, md, ms, mn, true, mz⟩ q1] w fun e w' => e = .returned (.string (rowT k [my, mm, md, ms, mn, mz])) ∧ Below w.heap.size w w' := by
  have hI5 : ∀ n ∈ [my, mm, md, ms, mn], I64 n := fun n hn => hI n (by simp only [List.mem_cons, List.not_mem_nil, or_false] at hn ⊢; rcases hn with h | h | h | h | h <;> simp [h])
  have hI1 : ∀ n ∈ [mz], I64 n := fun n hn => hI n (by simp only [List.mem_cons, List.not_mem_nil, or_false] at hn ⊢; simp [hn])
  have HE : Hid (rowT k [my, mm, md, ms, mn, mz] = nmS k ++ flT [my, mm, md, ms, mn] ++ flT [mz]) := by
    show _ = _
    rw [row_fl, show [my, mm, md, ms, mn, mz] = [my, mm, md, ms, mn] ++ [mz] from rfl, flT_app]
    apply ByteArray.ext
    simp
  rw [HE.out]
  have HF1 : Hid _ := fields_own [mz] (by simp) (by simp) hI1
  have HN1 : Hid _ := fun W hW => own_new W [mz] w.heap.size hW (by simp)
  have hsz := fl_size [mz] hI1
  have HF : Hid _ := fields_own [my, mm, md, ms, mn] (by simp) (by simp) hI5
  have HN : Hid _ := fun W hW => own_new W [my, mm, md, ms, mn] w.heap.size hW (by simp)
  have hs1 := nm_size k
  have hs5 := fl_size [my, mm, md, ms, mn] hI5
  simp only [List.length_cons, List.length_nil] at hs5 hsz
  obtain ⟨nn, hnn⟩ : ∃ nn, nmS k = nn := ⟨_, rfl⟩
  obtain ⟨f5, hf5⟩ : ∃ nn, flT [my, mm, md, ms, mn] = nn := ⟨_, rfl⟩
  rw [hnn] at hs1
  rw [hf5] at hs5
  obtain ⟨fz, hfz⟩ : ∃ nn, flT [mz] = nn := ⟨_, rfl⟩
  rw [hfz] at hsz HF1 ⊢
  clear hfz
  have HNM : Hid _ := fun W => name_r k W
  rw [hnn] at HNM
  rw [hf5] at HF
  rw [hnn, hf5]
  clear hI hI5 hnn hf5
  have q1' : (k == 1) = false := by simp; omega
  have q9 : (k == 9) = false := by simp; omega
  have q10 : (k == 10) = false := by simp; omega
  have q32 : (k == 32) = false := by simp; omega
  have q24 : decide (24 ≤ k) = true := by simpa using h0
  have q31 : decide (k ≤ 31) = true := by simpa using h1
  have hnot : ¬ (9223372036854775807 < nn.size + f5.size) := by omega
  have hnot2 : ¬ (9223372036854775807 < nn.size + f5.size + fz.size) := by omega
  obtain ⟨hx, hy, hb0⟩ := box_two w (.cells #[.int .i64 k, .string t1, .bool g1, .slice a1 b1 c1, .int .i64 s1, .int .i64 mk, .int .i64 my, .int .i64 mm, .int .i64 md, .int .i64 ms, .int .i64 mn, .bool true, .int .i64 mz, .int .i64 q1.o, .int .i64 q1.s, .int .i64 q1.n] 47) (.cells #[.int .i64 mk, .int .i64 my, .int .i64 mm, .int .i64 md, .int .i64 ms, .int .i64 mn, .bool true, .int .i64 mz] 44)
  go_enter Tryz.func25, Tryz.ntmps25
  obtain ⟨U, hU⟩ : ∃ U, (w.alloc (.cells #[.int .i64 k, .string t1, .bool g1, .slice a1 b1 c1, .int .i64 s1, .int .i64 mk, .int .i64 my, .int .i64 mm, .int .i64 md, .int .i64 ms, .int .i64 mn, .bool true, .int .i64 mz, .int .i64 q1.o, .int .i64 q1.s, .int .i64 q1.n] 47)).alloc (.cells #[.int .i64 mk, .int .i64 my, .int .i64 mm, .int .i64 md, .int .i64 ms, .int .i64 mn, .bool true, .int .i64 mz] 44) = U := ⟨_, rfl⟩
  rw [hU] at hx hy hb0
  go_upto_region 9 with fail
  try rw [hU]
  clear hU
  have HK : Hid _ := fun W (hW : Below U.heap.size U W) => cells8 ((hW.block _ (Dc.lt_of hx)).trans hx) ((hW.block _ (Dc.lt_of hy)).trans hy)
  have HK2 : Hid _ := fun W (hW : Below U.heap.size U W) => cells67 ((hW.block _ (Dc.lt_of hy)).trans hy)
  have HU : Hid _ := hb0
  have HB : Hid (Below U.heap.size U U.drew) := Dc.Below.drewN' 1
  have HBA : Hid (Below U.heap.size U (U.alloc (.cells #[.int .i64 my, .int .i64 mm, .int .i64 md, .int .i64 ms, .int .i64 mn] 3)).drew) := (bel1' (Below.refl U.heap.size U) _).drew
  have HOA : Hid ((U.alloc (.cells #[.int .i64 my, .int .i64 mm, .int .i64 md, .int .i64 ms, .int .i64 mn] 3)).drew.ownsRow w.heap.size 3 1 (.slice (some ⟨U.heap.size, 0, none⟩) 5 5) 5 (inV [my, mm, md, ms, mn])) := HN.out U HU.out.size _ rfl
  obtain ⟨y0, y1, y2, y3, y4, y5⟩ := HK.out _ HB.out
  clear hb0 hx hy
  go_region_held3 (fun W => W.cell? ⟨w.heap.size, 0, none⟩ = some (.int .i64 k) ∧ W.cell? ⟨w.heap.size + 1, 1, none⟩ = some (.int .i64 my) ∧ W.cell? ⟨w.heap.size + 1, 2, none⟩ = some (.int .i64 mm) ∧ W.cell? ⟨w.heap.size + 1, 3, none⟩ = some (.int .i64 md) ∧ W.cell? ⟨w.heap.size + 1, 4, none⟩ = some (.int .i64 ms) ∧ W.cell? ⟨w.heap.size + 1, 5, none⟩ = some (.int .i64 mn)) (first | with_reducible exact HK.out _ HB.out | with_reducible exact HK.out _ (bel1' HB.out _) | with_reducible exact HK.out _ HBA.out | fail) (first
    | (go_at_call 12; (first | ((with_reducible refine Calls.mono (HNM.out U.drew) ?_); rintro e w9 ⟨rfl, hb9⟩; have hbb := HB.out.trans (hb9.mono HB.out.size); clear HB; have HB : Hid (Below U.heap.size U w9) := hbb; clear hbb hb9) | ((with_reducible refine Calls.mono (HNM.out (U.alloc (.cells #[.int .i64 my, .int .i64 mm, .int .i64 md, .int .i64 ms, .int .i64 mn] 3)).drew) ?_); rintro e w9 ⟨rfl, hb9⟩; have hbb := HBA.out.trans (hb9.mono HBA.out.size); have HO9 : Hid (w9.ownsRow w.heap.size 3 1 (.slice (some ⟨U.heap.size, 0, none⟩) 5 5) 5 (inV [my, mm, md, ms, mn])) := M.row_below HOA.out hb9; clear HB; have HB : Hid (Below U.heap.size U w9) := hbb; clear hbb hb9)))
    | (go_at_call 48; (first | (refine Calls.mono (HF.out _ _ _ HO9.out) ?_; rintro e w10 ⟨rfl, hb9⟩; have hbb := HB.out.trans (hb9.mono HB.out.size); clear HB; have HB : Hid (Below U.heap.size U w10) := hbb; clear hbb hb9) | (refine Calls.mono (HF.out _ _ _ (HN.out _ (HU.out.trans (HB.out.mono HU.out.size)).size _ rfl)) ?_; rintro e w10 ⟨rfl, hb9⟩; have hb8 := bel1' HB.out (.cells (inV [my, mm, md, ms, mn]).toArray 3); have hbb := hb8.trans (hb9.mono hb8.size); clear HB hb8; have HB : Hid (Below U.heap.size U w10) := hbb; clear hbb hb9)))
    | fail)
  all_goals
    have hz67 := HK2.out _ HB.out
    obtain ⟨z6, z7⟩ := hz67
    go_wp2_with (go_at_call 48; refine Calls.mono (HF1.out _ _ _ (HN1.out _ (HU.out.trans (HB.out.mono HU.out.size)).size _ rfl)) ?_; rintro e w11 ⟨rfl, hb9⟩; have hb8 := bel1' HB.out (.cells (inV [mz]).toArray 3); have hbb := hb8.trans (hb9.mono hb8.size); clear hb8; have HB11 : Hid (Below U.heap.size U w11) := hbb; clear hbb hb9)
    go_ret
    exact ⟨rfl, HU.out.trans (HB11.out.mono HU.out.size)⟩
/-- Text of the second telling, of a value. -/
theorem rtext_a {w : World} {v : Value} {d : Kd} (h : VlA w v d) (o1 : KdOk d) : Calls Tryz.prog 25 #[v] w fun e w' => e = .returned (.string (txK d)) ∧ Below w.heap.size w w' := by
  obtain ⟨a, c, rfl, hb⟩ := h
  cases d with
  | txt p t => exact rtext_t p o1 t _ _ _ _ _ _ _ w
  | num n => exact rtext_n ⟨#[]⟩ _ _ ⟨hb, o1.1, o1.2⟩
  | spn q => exact rtext_spn _ _ _ _ _ _ _ _ o1
  | mom k m =>
    obtain ⟨h0, h1, hl⟩ := o1
    obtain ⟨i1, i2, i3, i4, i5, i6⟩ := mo_I hl
    obtain ⟨mk, my, mm, md, ms, mn, mh, mz⟩ := m
    cases mh with
    | false =>
      have hI : ∀ n ∈ [my, mm, md, ms, mn], I64 n := by
        intro n hn
        simp only [List.mem_cons, List.not_mem_nil, or_false] at hn
        rcases hn with rfl | rfl | rfl | rfl | rfl <;> assumption
      exact rtext_mmf k h0 h1 _ _ _ _ _ _ _ _ _ _ _ _ _ _ hI
    | true =>
      have hI : ∀ n ∈ [my, mm, md, ms, mn, mz], I64 n := by
        intro n hn
        simp only [List.mem_cons, List.not_mem_nil, or_false] at hn
        rcases hn with rfl | rfl | rfl | rfl | rfl | rfl <;> assumption
      exact rtext_mmt k h0 h1 _ _ _ _ _ _ _ _ _ _ _ _ _ _ hI
end Go.Proofs.YtgaegajcejpmdaaGreatDoor
namespace Go.Proofs.YtgaegajcejpmdaaGreatDoor
open Go.RowKit
set_option linter.unusedVariables false
set_option linter.unusedSimpArgs false

set_option maxRecDepth 100000 in
set_option maxHeartbeats 6400000 in
theorem like_l {p s : Int} {t : ByteArray} {g : Bool} {a a' : Option Addr} {b c c' : Nat} {m : Dt.Mo} {q : Dt.Sp} {l : List Int} {w : World} (h1 : Dc.BtR w (.slice a b c) l) (h2 : Dc.BtR w (.slice a' b c') l) : Calls Tryz.prog 23 #[vlV p t g (.slice a b c) s m q, vlV p t g (.slice a' b c') s m q] w fun e w' => e = .returned (.bool true) ∧ Below w.heap.size w w' := by
  obtain ⟨hx, hy, hb⟩ := box_two w (.cells #[.int .i64 p, .string t, .bool g, .slice a b c, .int .i64 s, .int .i64 m.k, .int .i64 m.y, .int .i64 m.m, .int .i64 m.d, .int .i64 m.s, .int .i64 m.n, .bool m.hz, .int .i64 m.z, .int .i64 q.o, .int .i64 q.s, .int .i64 q.n] 40) (.cells #[.int .i64 p, .string t, .bool g, .slice a' b c', .int .i64 s, .int .i64 m.k, .int .i64 m.y, .int .i64 m.m, .int .i64 m.d, .int .i64 m.s, .int .i64 m.n, .bool m.hz, .int .i64 m.z, .int .i64 q.o, .int .i64 q.s, .int .i64 q.n] 47)
  have cv1 := Dc.conv_str (h1.below hb)
  have cv2 := Dc.conv_str (h2.below hb)
  have HB : Hid _ := hb
  clear hb h1 h2
  go_enter Tryz.func23, Tryz.ntmps23
  obtain ⟨U, hU⟩ : ∃ U, (w.alloc (.cells #[.int .i64 p, .string t, .bool g, .slice a b c, .int .i64 s, .int .i64 m.k, .int .i64 m.y, .int .i64 m.m, .int .i64 m.d, .int .i64 m.s, .int .i64 m.n, .bool m.hz, .int .i64 m.z, .int .i64 q.o, .int .i64 q.s, .int .i64 q.n] 40)).alloc (.cells #[.int .i64 p, .string t, .bool g, .slice a' b c', .int .i64 s, .int .i64 m.k, .int .i64 m.y, .int .i64 m.m, .int .i64 m.d, .int .i64 m.s, .int .i64 m.n, .bool m.hz, .int .i64 m.z, .int .i64 q.o, .int .i64 q.s, .int .i64 q.n] 47) = U := ⟨_, rfl⟩
  rw [hU] at hx hy cv1 cv2 HB
  go_upto_region 1 with fail
  try rw [hU]
  clear hU
  have k0 := c16 hx
  obtain ⟨f0, f1, f2, f3, f4, f5, f6, f7, f8, f9, f10, f11, f12, f13, f14, f15⟩ := k0
  have k1 := c16 hy
  obtain ⟨g0, g1, g2, g3, g4, g5, g6, g7, g8, g9, g10, g11, g12, g13, g14, g15⟩ := k1
  clear hx hy
  go_wp2_with fail
  go_ret
  exact ⟨rfl, HB.out⟩
end Go.Proofs.YtgaegajcejpmdaaGreatDoor
