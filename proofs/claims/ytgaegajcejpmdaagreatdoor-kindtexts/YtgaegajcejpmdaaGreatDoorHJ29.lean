/- Joined: HK31, HK32, HK33, HK46, HK47, HK40, HK41. -/
import Derived.Test.YtgaegajcejpmdaaGreatDoorHJ25
import Derived.Test.YtgaegajcejpmdaaGreatDoorHK31j
import Derived.Laws.Tables
import Derived.Deep.MidRow
import Derived.Deep.RegionHeld3
import Derived.Deep.DeepCutAuto
import Derived.Test.YtgaegajcejpmdaaGreatDoorHJ10
import Derived.Test.YtgaegajcejpmdaaGreatDoorHJ9
namespace Go.Proofs.YtgaegajcejpmdaaGreatDoor
open Go.RowKit
set_option linter.unusedVariables false
set_option linter.unusedSimpArgs false

def itT (n : Int) : ByteArray := ⟨(Lib.itoa n).toArray⟩
def rowL (k : Int) (l : List Int) : List ByteArray := nmS k :: l.map itT
def rowT (k : Int) (l : List Int) : ByteArray := ⟨(Lib.join ((rowL k l).map (·.data.toList)) [32]).toArray⟩
def I64 (n : Int) : Prop := -9223372036854775808 ≤ n ∧ n ≤ 9223372036854775807
theorem it_size {n : Int} (h : I64 n) : (itT n).size ≤ 4096 := by
  have h1 := Dc.par_ok (Dc.par_itoa n h.1 h.2)
  have h2 := h1.2.2.2
  have : (itT n).size = ((Lib.itoa n).map fun c => (c.toNat : Int)).length := by simp [itT, ByteArray.size]
  omega
theorem nm_size (k : Int) : (nmS k).size ≤ 100 := by
  unfold nmS
  split
  · have h : ∀ x ∈ nmL, x.size ≤ 100 := by decide
    rw [List.getD_eq_getElem?_getD]
    cases hg : nmL[k.toNat]? with
    | none => exact Nat.zero_le _
    | some x => exact h x (List.mem_of_getElem? hg)
  · exact Nat.zero_le _
theorem lens_le (L : List (List UInt8)) (m : Nat) (h : ∀ x ∈ L, x.length ≤ m) : Lib.lens L ≤ L.length * m := by
  induction L with
  | nil => simp [Lib.lens]
  | cons a L ih =>
    have h1 := ih (fun x hx => h x (by simp [hx]))
    have h2 := h a (by simp)
    simp only [Lib.lens, List.map_cons, List.sum_cons, List.length_cons, Nat.add_mul, Nat.one_mul] at h1 ⊢
    omega
theorem row_len {k : Int} {l : List Int} (hl : l.length ≤ 10) (hI : ∀ n ∈ l, I64 n) : (Lib.join ((rowL k l).map (·.data.toList)) [32]).length ≤ 100000 := by
  unfold rowL
  rw [List.map_cons, Lib.join_length]
  have h := lens_le ((nmS k).data.toList :: (l.map itT).map (·.data.toList)) 4096 (fun x hx => by
    simp only [List.mem_cons, List.mem_map] at hx
    rcases hx with rfl | ⟨y, ⟨n, hn, rfl⟩, rfl⟩
    · have := nm_size k
      show (nmS k).size ≤ 4096
      omega
    · exact it_size (hI n hn))
  simp only [List.length_cons, List.length_map, List.length_nil] at h ⊢
  omega
theorem info_s : ∃ i, Tryz.prog.info? 9 = some i ∧ i.zero = some (.string ⟨#[]⟩) ∧ i.size = 1 ∧ i.bytes = 16 := by
  have := Ch.info9
  cases h : Tryz.prog.info? 9 with
  | none => rw [h] at this; simp at this
  | some i =>
    rw [h] at this
    simp at this
    exact ⟨i, rfl, this.1, this.2.1, this.2.2⟩
def strV (l : List ByteArray) : List Value := l.map Value.string
def RowI (k : Int) (l : List Int) (w : World) (j : Nat) (v : Value) (wr : World) : Prop :=
  wr.ownsRow w.heap.size 9 1 v (j + 1) (strV (rowL k (l.take j))) ∧ Below w.heap.size w wr
set_option maxRecDepth 8000 in
set_option maxHeartbeats 1000000 in
theorem row_p (k : Int) (l : List Int) (b c : Nat) (w : World) (hw : Lw w) (hl : l.length ≤ 10) (hI : ∀ n ∈ l, I64 n) (hb : b < w.heap.size) (hcell : ∀ (j : Nat) (hj : j < l.length), w.cell? ⟨b, j, none⟩ = some (.int .i64 l[j])) :
    Calls Tryz.prog 46 #[.int .i64 k, .slice (some ⟨b, 0, none⟩) l.length c] w fun e w' => e = .returned (.string (rowT k l)) ∧ Below w.heap.size w w' := by
  obtain ⟨i0, hi, hz, hzs, hby⟩ := info_s
  have h0 : RowI k l w 0 (.slice (some ⟨w.heap.size, 0, none⟩) 1 1) (w.alloc (.cells #[.string (nmS k)] 9)) := by
    refine ⟨⟨rfl, .inr ⟨w.heap.size, 1, #[.string (nmS k)], rfl, Nat.le_refl _, M.nw_heap _ _, Nat.le_refl _, by decide, rfl, by simp [strV, rowL]⟩⟩, (Below.refl _ _).alloc (Nat.le_refl _) _⟩
  have HX : Hid _ := And.intro h0 (And.intro hcell (And.intro hI (And.intro hw hl)))
  clear h0 hcell hI hl
  go_enter Tryz.func46, Tryz.ntmps46
  go_wp2_with (go_at_call 11; refine (name_k k _ hw.nm).mono ?_; rintro e w' ⟨rfl, hw2⟩; have hw3 := hw2.symm; clear hw2; subst hw3)
  clear hw
  go_loopg [5, 13] l.length (fun g v5 v13 wr => ∃ j : Nat, j + g = l.length ∧ v13 = .int .i64 (j : Int) ∧ RowI k l w j v5 wr)
  case atStart => exact ⟨0, by omega, rfl, HX.out.1⟩
  case round =>
    obtain ⟨j, hjg, rfl, hown, hbel⟩ := hrel
    by_cases hlt : j < l.length
    · obtain ⟨q, rfl⟩ : ∃ q, gk = q + 1 := ⟨gk - 1, by omega⟩
      have hc := (hbel.cell (p := ⟨b, j, none⟩) hb).trans (HX.out.2.1 j hlt)
      have hn := HX.out.2.2.1 l[j] (List.getElem_mem hlt)
      have hit := Dc.itoa_p l[j] hn.1 hn.2 wr ((HX.out.2.2.2.1.below hbel).tab)
      have hl10 := HX.out.2.2.2.2
      have et : rowL k (l.take (j + 1)) = rowL k (l.take j) ++ [itT l[j]] := by
        unfold rowL
        rw [M.take_snoc hlt, List.map_append]
        rfl
      have HO : Hid _ := And.intro hown (And.intro hbel (And.intro hit et))
      clear hown hbel hn hit et
      generalize l[j] = n at *
      obtain ⟨g, vc, rfl⟩ : ∃ g c, u5 = .slice (some ⟨g, 0, none⟩) (j + 1) c := by
        rcases HO.out.1.2 with ⟨_, h0⟩ | ⟨g, cap, cur, rfl, _⟩
        · omega
        · exact ⟨g, cap, rfl⟩
      have e1 : (j : Int) < (l.length : Int) := by omega
      have e2 : (0 : Int) ≤ (j : Int) := by omega
      go_wp2_with (first | (go_at_call 85; refine Calls.mono HO.out.2.2.1 ?_; rintro e w5 ⟨rfl, hb5⟩; have H5 : Hid _ := hb5; clear hb5) | (at_builtin; go_loud (refine wpList_append_own _ rfl _ _ 62 rfl w.heap.size 9 i0 (.string ⟨#[]⟩) 1 16 Tryz.underlying62 hi hz hzs hby rfl (by decide) _ _ _ rfl (M.row_below (M.row_below HO.out.1 H5.out) ((Below.refl _ _).alloc (Nat.le_refl _) _)) ⟨_, 0, none⟩ 1 1 [.string (itT n)] rfl rfl (cell_one_new _ _ _) (by simp [Value.oneCell']) (by unfold maxLen; omega) (by omega) (by have := HO.out.2.1.size; have := H5.out.size; simp; omega) ?_); intro v' w7 hown7 hgr7 _))
      go_roundg q
      case measure => omega
      case rel =>
        have hrb := M.row_base HO.out.1
        refine ⟨j + 1, by omega, by go_num, ?_, ?_⟩
        · rw [HO.out.2.2.2]
          unfold strV at hown7 ⊢
          rw [List.map_append]
          exact hown7
        · have hb6 := (HO.out.2.1.trans (H5.out.mono HO.out.2.1.size))
          have hb7 := hb6.trans (((Below.refl _ _).alloc (Nat.le_refl _) (.cells #[.string (itT n)] 9)).mono hb6.size)
          exact hb7.trans ((M.Fro.grown (O := fun i => (Value.slice (some ⟨g, 0, none⟩) (j + 1) vc).ownBlock = some i) hgr7 (fun i hi => hi)).toBelow hb7.size (fun i hi hq => by have := (hrb i hq).1; omega))
    · have hj : j = l.length := by omega
      subst hj
      have hr : (rowL k l).length = l.length + 1 := by simp [rowL]
      obtain ⟨h1, h2⟩ := hown
      rw [List.take_length] at h1 h2
      rcases h2 with ⟨_, h0⟩ | ⟨g, cap, cur, rfl, h3, h4, h5, h6, h7, h8⟩
      · omega
      · have hcs : ∀ (i : Nat) x, (rowL k l)[i]? = some x → wr.cell? ⟨g, 0 + i, none⟩ = some (.string x) := fun i x hx => by
          have hown : wr.ownsRow w.heap.size 9 1 (.slice (some ⟨g, 0, none⟩) (l.length + 1) cap) (l.length + 1) (strV (rowL k l)) := ⟨h1, .inr ⟨g, cap, cur, rfl, h3, h4, h5, h6, h7, h8⟩⟩
          have := World.ownsRow.cells (g := g) hown rfl i (.string x) (by simp [strV, hx])
          rw [Addr.add_lit] at this
          exact this
        have hjn := join_p g 0 cap (rowL k l) wr hcs (M.lt_of h4) (by rw [hr]; have := HX.out.2.2.2.2; omega) (by rw [hr]; exact h5) (row_len HX.out.2.2.2.2 HX.out.2.2.1)
        rw [hr] at hjn
        have HJ : Hid _ := And.intro hjn hbel
        clear hjn hbel hcs h1 h3 h4 h5 h6 h7 h8 hr
        go_wp2_with (go_at_call 86; refine Calls.mono HJ.out.1 ?_; rintro e w8 ⟨rfl, hb8⟩; have H8 : Hid _ := hb8; clear hb8)
        go_ret
        exact ⟨rfl, HJ.out.2.trans (H8.out.mono HJ.out.2.size)⟩
end Go.Proofs.YtgaegajcejpmdaaGreatDoor
namespace Go.Proofs.YtgaegajcejpmdaaGreatDoor
open Go.RowKit
set_option linter.unusedVariables false
set_option linter.unusedSimpArgs false

def moF (m : Dt.Mo) : List Int := if m.hz = true then [m.y, m.m, m.d, m.s, m.n, m.z] else [m.y, m.m, m.d, m.s, m.n]
def spF (q : Dt.Sp) : List Int := [q.o, q.s, q.n]
/-- A value's text. -/
def txK : Kd → ByteArray
  | .txt _ t => t
  | .num n => Dc.sb (Dc.txS n)
  | .mom k m => rowT k (moF m)
  | .spn q => rowT 32 (spF q)
def inV (l : List Int) : List Value := l.map (Value.int .i64)
theorem row_own (k : Int) (l : List Int) {w : World} (hw : Lw w) (hl : l.length ≤ 10) (h0 : 0 < l.length) (hI : ∀ n ∈ l, I64 n) (W : World) (hW : Below w.heap.size w W) (base : Nat) (v : Value) (ho : W.ownsRow base 3 1 v l.length (inV l)) :
    Calls Tryz.prog 46 #[.int .i64 k, v] W fun e w' => e = .returned (.string (rowT k l)) ∧ Below w.heap.size w w' := by
  obtain ⟨h1, h2⟩ := ho
  rcases h2 with ⟨_, h⟩ | ⟨g, cap, cur, rfl, h3, h4, h5, h6, h7, h8⟩
  · omega
  · have hown : W.ownsRow base 3 1 (.slice (some ⟨g, 0, none⟩) l.length cap) l.length (inV l) := ⟨h1, .inr ⟨g, cap, cur, rfl, h3, h4, h5, h6, h7, h8⟩⟩
    refine (row_p k l g cap W (hw.below hW) hl hI (M.lt_of h4) (fun j hj => ?_)).mono ?_
    · have := World.ownsRow.cells (g := g) hown rfl j (.int .i64 l[j]) (by simp [inV, hj])
      rw [Addr.add_lit, Nat.zero_add] at this
      exact this
    · rintro e w' ⟨rfl, hb⟩
      exact ⟨rfl, hW.trans (hb.mono hW.size)⟩
theorem own_new (w : World) (l : List Int) (base : Nat) (hb : base ≤ w.heap.size) (hl : l.length ≤ 100) (B : Nat) (hB : w.heap.size = B) : (w.alloc (.cells (inV l).toArray 3)).ownsRow base 3 1 (.slice (some ⟨B, 0, none⟩) l.length l.length) l.length (inV l) := by
  subst hB
  refine ⟨by simp [inV], .inr ⟨w.heap.size, l.length, (inV l).toArray, rfl, hb, M.nw_heap _ _, Nat.le_refl _, by unfold maxLen; omega, by simp [inV], ?_⟩⟩
  simp only [Nat.mul_one]
  exact List.take_of_length_le (by simp [inV])
theorem cell_one_at (w : World) (x : Value) (t : TypeId) (B : Nat) (hB : w.heap.size = B) : ∀ j u, [x][j]? = some u → (w.alloc (.cells #[x] t)).cell? ((⟨B, 0, none⟩ : Addr).add j) = some u := by
  subst hB
  exact cell_one_new w x t
theorem grown_bel {w W w' : World} {g n c : Nat} (h : Below w.heap.size w W) (hg : W.grownBy w' (Value.slice (some ⟨g, 0, none⟩) n c).ownBlock) (hb : w.heap.size ≤ g) : Below w.heap.size w w' :=
  h.trans ((M.Fro.grown (O := fun i => i = g) hg (fun i hi => by simp [Value.ownBlock] at hi; omega)).toBelow h.size (fun i hi hq => by omega))
theorem grown_cell {W w' : World} {g n c i o : Nat} {v : Value} (hg : W.grownBy w' (Value.slice (some ⟨g, 0, none⟩) n c).ownBlock) (hi : i < W.heap.size) (hne : i ≠ g) (h : W.cell? ⟨i, o, none⟩ = some v) : w'.cell? ⟨i, o, none⟩ = some v :=
  M.cell_of ((M.Fro.grown (O := fun i => i = g) hg (fun i hi => by simp [Value.ownBlock] at hi; omega)).block i hi hne) h
theorem info_n : ∃ i, Tryz.prog.info? 3 = some i ∧ i.zero = some (.int .i64 0) ∧ i.size = 1 ∧ i.bytes = 8 := by
  have : (Tryz.prog.info? 3).map (fun i => (i.zero, i.size, i.bytes)) = some (some (.int .i64 0), 1, 8) := by kernel_rfl
  cases h : Tryz.prog.info? 3 with
  | none => rw [h] at this; simp at this
  | some i =>
    rw [h] at this
    simp at this
    exact ⟨i, rfl, this.1, this.2.1, this.2.2⟩
theorem sp_I {q : Dt.Sp} (h : Dt.SpT q) : ∀ n ∈ spF q, I64 n := by
  intro n hn
  have := h.o0; have := h.o1; have := h.s0; have := h.s1; have := h.n0; have := h.n1
  simp only [spF, List.mem_cons, List.not_mem_nil, or_false] at hn
  unfold I64
  rcases hn with rfl | rfl | rfl <;> omega
theorem mo_I {m : Dt.Mo} (h : Dt.MoL m) : I64 m.y ∧ I64 m.m ∧ I64 m.d ∧ I64 m.s ∧ I64 m.n ∧ I64 m.z := by
  have := h.b.y0; have := h.b.y1; have := h.b.m0; have := h.b.m1; have := h.b.d0; have := h.b.d1; have := h.b.s0; have := h.b.s1; have := h.n0; have := h.n1; have := h.z0; have := h.z1
  unfold I64
  omega
theorem bel1 {w W : World} (h : Below w.heap.size w W) (o : Obj) : Below w.heap.size w (W.alloc o) := h.alloc h.size o
set_option maxRecDepth 100000 in
set_option maxHeartbeats 1600000 in
theorem text_spn (t1 : ByteArray) (g1 : Bool) (a1 : Option Addr) (b1 c1 : Nat) (s1 : Int) (m1 : Dt.Mo) (q1 : Dt.Sp) {w : World} (hw : Lw w) (l1 : Dt.SpT q1) : Calls Tryz.prog 24 #[vlV 32 t1 g1 (.slice a1 b1 c1) s1 m1 q1] w fun e w' => e = .returned (.string (rowT 32 (spF q1))) ∧ Below w.heap.size w w' := by
  have HR : Hid _ := row_own 32 (spF q1) hw (by simp [spF]) (by simp [spF]) (sp_I l1)
  have HN : Hid _ := fun W hW => own_new W (spF q1) w.heap.size hW (by simp [spF])
  clear l1 hw
  go_enter Tryz.func24, Tryz.ntmps24
  go_wp2_with (go_at_call 46; refine Calls.mono (HR.out _ (bel1 (bel1 (Below.refl _ _) _) _) _ _ (HN.out _ (bel1 (Below.refl _ _) _).size _ (by simp))) ?_; rintro e w9 ⟨rfl, hb9⟩)
  go_ret
  exact ⟨rfl, hb9⟩
set_option maxRecDepth 100000 in
set_option maxHeartbeats 1600000 in
theorem text_m24f (t1 : ByteArray) (g1 : Bool) (a1 : Option Addr) (b1 c1 : Nat) (s1 mk my mm md ms mn mz : Int) (q1 : Dt.Sp) {w : World} (hw : Lw w) (hI : ∀ n ∈ [my, mm, md, ms, mn], I64 n) : Calls Tryz.prog 24 #[vlV 24 t1 g1 (.slice a1 b1 c1) s1 ⟨mk, my, mm, md, ms, mn, false, mz⟩ q1] w fun e w' => e = .returned (.string (rowT 24 [my, mm, md, ms, mn])) ∧ Below w.heap.size w w' := by
  obtain ⟨i0, hi, hz, hzs, hby⟩ := info_n
  have HR : Hid _ := row_own 24 [my, mm, md, ms, mn] hw (by simp) (by simp) hI
  have HN : Hid _ := fun W hW => own_new W [my, mm, md, ms, mn] w.heap.size hW (by simp)
  have HC : Hid _ := fun W (hW : Below (w.alloc (.cells #[.int .i64 24, .string t1, .bool g1, .slice a1 b1 c1, .int .i64 s1, .int .i64 mk, .int .i64 my, .int .i64 mm, .int .i64 md, .int .i64 ms, .int .i64 mn, .bool false, .int .i64 mz, .int .i64 q1.o, .int .i64 q1.s, .int .i64 q1.n] 40)).heap.size (w.alloc (.cells #[.int .i64 24, .string t1, .bool g1, .slice a1 b1 c1, .int .i64 s1, .int .i64 mk, .int .i64 my, .int .i64 mm, .int .i64 md, .int .i64 ms, .int .i64 mn, .bool false, .int .i64 mz, .int .i64 q1.o, .int .i64 q1.s, .int .i64 q1.n] 40)) W) => (row_cell ((hW.block _ (by simp)).trans (M.nw_heap w (.cells #[.int .i64 24, .string t1, .bool g1, .slice a1 b1 c1, .int .i64 s1, .int .i64 mk, .int .i64 my, .int .i64 mm, .int .i64 md, .int .i64 ms, .int .i64 mn, .bool false, .int .i64 mz, .int .i64 q1.o, .int .i64 q1.s, .int .i64 q1.n] 40))) : W.cell? ⟨w.heap.size, 0, none⟩ = some (.int .i64 24))
  clear hI hw
  go_enter Tryz.func24, Tryz.ntmps24
  go_wp2_with (go_at_call 46; refine Calls.mono (HR.out _ (bel1 (bel1 (bel1 (Below.refl _ _) _) _) _) _ _ (HN.out _ (bel1 (bel1 (Below.refl _ _) _) _).size _ (by simp))) ?_; rintro e w9 ⟨rfl, hb9⟩)
  go_ret
  exact ⟨rfl, hb9⟩
set_option maxRecDepth 100000 in
set_option maxHeartbeats 1600000 in
theorem text_m24t (t1 : ByteArray) (g1 : Bool) (a1 : Option Addr) (b1 c1 : Nat) (s1 mk my mm md ms mn mz : Int) (q1 : Dt.Sp) {w : World} (hw : Lw w) (hI : ∀ n ∈ [my, mm, md, ms, mn, mz], I64 n) : Calls Tryz.prog 24 #[vlV 24 t1 g1 (.slice a1 b1 c1) s1 ⟨mk, my, mm, md, ms, mn, true, mz⟩ q1] w fun e w' => e = .returned (.string (rowT 24 [my, mm, md, ms, mn, mz])) ∧ Below w.heap.size w w' := by
  obtain ⟨i0, hi, hz, hzs, hby⟩ := info_n
  have HR : Hid _ := row_own 24 [my, mm, md, ms, mn, mz] hw (by simp) (by simp) hI
  have HN : Hid _ := fun W hW => own_new W [my, mm, md, ms, mn] w.heap.size hW (by simp)
  have HC : Hid _ := fun W (hW : Below (w.alloc (.cells #[.int .i64 24, .string t1, .bool g1, .slice a1 b1 c1, .int .i64 s1, .int .i64 mk, .int .i64 my, .int .i64 mm, .int .i64 md, .int .i64 ms, .int .i64 mn, .bool true, .int .i64 mz, .int .i64 q1.o, .int .i64 q1.s, .int .i64 q1.n] 40)).heap.size (w.alloc (.cells #[.int .i64 24, .string t1, .bool g1, .slice a1 b1 c1, .int .i64 s1, .int .i64 mk, .int .i64 my, .int .i64 mm, .int .i64 md, .int .i64 ms, .int .i64 mn, .bool true, .int .i64 mz, .int .i64 q1.o, .int .i64 q1.s, .int .i64 q1.n] 40)) W) => (row_cell ((hW.block _ (by simp)).trans (M.nw_heap w (.cells #[.int .i64 24, .string t1, .bool g1, .slice a1 b1 c1, .int .i64 s1, .int .i64 mk, .int .i64 my, .int .i64 mm, .int .i64 md, .int .i64 ms, .int .i64 mn, .bool true, .int .i64 mz, .int .i64 q1.o, .int .i64 q1.s, .int .i64 q1.n] 40))) : W.cell? ⟨w.heap.size, 0, none⟩ = some (.int .i64 24))
  clear hI hw
  go_enter Tryz.func24, Tryz.ntmps24
  go_wp2_with (first | (at_builtin; refine wpList_append_own _ rfl _ _ 60 rfl w.heap.size 3 i0 (.int .i64 0) 1 8 Tryz.underlying60 hi hz hzs hby rfl (by decide) _ _ _ rfl (M.row_below (HN.out _ (bel1 (bel1 (Below.refl _ _) _) _).size _ (by simp)) ((Below.refl _ _).alloc (Nat.le_refl _) _)) ⟨_, 0, none⟩ 1 1 [.int .i64 mz] rfl rfl (cell_one_at _ _ _ _ (by simp)) (by simp [Value.oneCell']) (by simp [maxLen]) (by simp) (by simp; omega) ?_; intro v' w7 hown7 hgr7 _; have hb7 : Hid (Below w.heap.size w w7) := grown_bel (bel1 (bel1 (bel1 (bel1 (Below.refl w.heap.size w) _) _) _) _) hgr7 (by omega); have ho7 : Hid _ := hown7; have hx7 : w7.cell? ⟨w.heap.size, 0, none⟩ = some (.int .i64 24) := grown_cell hgr7 (by simp; omega) (by omega) (HC.out _ (bel1 (bel1 (bel1 (Below.refl _ _) _) _) _)); clear hown7 hgr7) | (go_at_call 46; refine Calls.mono (HR.out _ hb7.out _ _ ho7.out) ?_; rintro e w9 ⟨rfl, hb9⟩))
  go_ret
  exact ⟨rfl, hb9⟩
set_option maxRecDepth 100000 in
set_option maxHeartbeats 1600000 in
theorem text_m25f (t1 : ByteArray) (g1 : Bool) (a1 : Option Addr) (b1 c1 : Nat) (s1 mk my mm md ms mn mz : Int) (q1 : Dt.Sp) {w : World} (hw : Lw w) (hI : ∀ n ∈ [my, mm, md, ms, mn], I64 n) : Calls Tryz.prog 24 #[vlV 25 t1 g1 (.slice a1 b1 c1) s1 ⟨mk, my, mm, md, ms, mn, false, mz⟩ q1] w fun e w' => e = .returned (.string (rowT 25 [my, mm, md, ms, mn])) ∧ Below w.heap.size w w' := by
  obtain ⟨i0, hi, hz, hzs, hby⟩ := info_n
  have HR : Hid _ := row_own 25 [my, mm, md, ms, mn] hw (by simp) (by simp) hI
  have HN : Hid _ := fun W hW => own_new W [my, mm, md, ms, mn] w.heap.size hW (by simp)
  have HC : Hid _ := fun W (hW : Below (w.alloc (.cells #[.int .i64 25, .string t1, .bool g1, .slice a1 b1 c1, .int .i64 s1, .int .i64 mk, .int .i64 my, .int .i64 mm, .int .i64 md, .int .i64 ms, .int .i64 mn, .bool false, .int .i64 mz, .int .i64 q1.o, .int .i64 q1.s, .int .i64 q1.n] 40)).heap.size (w.alloc (.cells #[.int .i64 25, .string t1, .bool g1, .slice a1 b1 c1, .int .i64 s1, .int .i64 mk, .int .i64 my, .int .i64 mm, .int .i64 md, .int .i64 ms, .int .i64 mn, .bool false, .int .i64 mz, .int .i64 q1.o, .int .i64 q1.s, .int .i64 q1.n] 40)) W) => (row_cell ((hW.block _ (by simp)).trans (M.nw_heap w (.cells #[.int .i64 25, .string t1, .bool g1, .slice a1 b1 c1, .int .i64 s1, .int .i64 mk, .int .i64 my, .int .i64 mm, .int .i64 md, .int .i64 ms, .int .i64 mn, .bool false, .int .i64 mz, .int .i64 q1.o, .int .i64 q1.s, .int .i64 q1.n] 40))) : W.cell? ⟨w.heap.size, 0, none⟩ = some (.int .i64 25))
  clear hI hw
  go_enter Tryz.func24, Tryz.ntmps24
  go_wp2_with (go_at_call 46; refine Calls.mono (HR.out _ (bel1 (bel1 (bel1 (Below.refl _ _) _) _) _) _ _ (HN.out _ (bel1 (bel1 (Below.refl _ _) _) _).size _ (by simp))) ?_; rintro e w9 ⟨rfl, hb9⟩)
  go_ret
  exact ⟨rfl, hb9⟩
set_option maxRecDepth 100000 in
set_option maxHeartbeats 1600000 in
theorem text_m25t (t1 : ByteArray) (g1 : Bool) (a1 : Option Addr) (b1 c1 : Nat) (s1 mk my mm md ms mn mz : Int) (q1 : Dt.Sp) {w : World} (hw : Lw w) (hI : ∀ n ∈ [my, mm, md, ms, mn, mz], I64 n) : Calls Tryz.prog 24 #[vlV 25 t1 g1 (.slice a1 b1 c1) s1 ⟨mk, my, mm, md, ms, mn, true, mz⟩ q1] w fun e w' => e = .returned (.string (rowT 25 [my, mm, md, ms, mn, mz])) ∧ Below w.heap.size w w' := by
  obtain ⟨i0, hi, hz, hzs, hby⟩ := info_n
  have HR : Hid _ := row_own 25 [my, mm, md, ms, mn, mz] hw (by simp) (by simp) hI
  have HN : Hid _ := fun W hW => own_new W [my, mm, md, ms, mn] w.heap.size hW (by simp)
  have HC : Hid _ := fun W (hW : Below (w.alloc (.cells #[.int .i64 25, .string t1, .bool g1, .slice a1 b1 c1, .int .i64 s1, .int .i64 mk, .int .i64 my, .int .i64 mm, .int .i64 md, .int .i64 ms, .int .i64 mn, .bool true, .int .i64 mz, .int .i64 q1.o, .int .i64 q1.s, .int .i64 q1.n] 40)).heap.size (w.alloc (.cells #[.int .i64 25, .string t1, .bool g1, .slice a1 b1 c1, .int .i64 s1, .int .i64 mk, .int .i64 my, .int .i64 mm, .int .i64 md, .int .i64 ms, .int .i64 mn, .bool true, .int .i64 mz, .int .i64 q1.o, .int .i64 q1.s, .int .i64 q1.n] 40)) W) => (row_cell ((hW.block _ (by simp)).trans (M.nw_heap w (.cells #[.int .i64 25, .string t1, .bool g1, .slice a1 b1 c1, .int .i64 s1, .int .i64 mk, .int .i64 my, .int .i64 mm, .int .i64 md, .int .i64 ms, .int .i64 mn, .bool true, .int .i64 mz, .int .i64 q1.o, .int .i64 q1.s, .int .i64 q1.n] 40))) : W.cell? ⟨w.heap.size, 0, none⟩ = some (.int .i64 25))
  clear hI hw
  go_enter Tryz.func24, Tryz.ntmps24
  go_wp2_with (first | (at_builtin; refine wpList_append_own _ rfl _ _ 60 rfl w.heap.size 3 i0 (.int .i64 0) 1 8 Tryz.underlying60 hi hz hzs hby rfl (by decide) _ _ _ rfl (M.row_below (HN.out _ (bel1 (bel1 (Below.refl _ _) _) _).size _ (by simp)) ((Below.refl _ _).alloc (Nat.le_refl _) _)) ⟨_, 0, none⟩ 1 1 [.int .i64 mz] rfl rfl (cell_one_at _ _ _ _ (by simp)) (by simp [Value.oneCell']) (by simp [maxLen]) (by simp) (by simp; omega) ?_; intro v' w7 hown7 hgr7 _; have hb7 : Hid (Below w.heap.size w w7) := grown_bel (bel1 (bel1 (bel1 (bel1 (Below.refl w.heap.size w) _) _) _) _) hgr7 (by omega); have ho7 : Hid _ := hown7; have hx7 : w7.cell? ⟨w.heap.size, 0, none⟩ = some (.int .i64 25) := grown_cell hgr7 (by simp; omega) (by omega) (HC.out _ (bel1 (bel1 (bel1 (Below.refl _ _) _) _) _)); clear hown7 hgr7) | (go_at_call 46; refine Calls.mono (HR.out _ hb7.out _ _ ho7.out) ?_; rintro e w9 ⟨rfl, hb9⟩))
  go_ret
  exact ⟨rfl, hb9⟩
set_option maxRecDepth 100000 in
set_option maxHeartbeats 1600000 in
theorem text_m26f (t1 : ByteArray) (g1 : Bool) (a1 : Option Addr) (b1 c1 : Nat) (s1 mk my mm md ms mn mz : Int) (q1 : Dt.Sp) {w : World} (hw : Lw w) (hI : ∀ n ∈ [my, mm, md, ms, mn], I64 n) : Calls Tryz.prog 24 #[vlV 26 t1 g1 (.slice a1 b1 c1) s1 ⟨mk, my, mm, md, ms, mn, false, mz⟩ q1] w fun e w' => e = .returned (.string (rowT 26 [my, mm, md, ms, mn])) ∧ Below w.heap.size w w' := by
  obtain ⟨i0, hi, hz, hzs, hby⟩ := info_n
  have HR : Hid _ := row_own 26 [my, mm, md, ms, mn] hw (by simp) (by simp) hI
  have HN : Hid _ := fun W hW => own_new W [my, mm, md, ms, mn] w.heap.size hW (by simp)
  have HC : Hid _ := fun W (hW : Below (w.alloc (.cells #[.int .i64 26, .string t1, .bool g1, .slice a1 b1 c1, .int .i64 s1, .int .i64 mk, .int .i64 my, .int .i64 mm, .int .i64 md, .int .i64 ms, .int .i64 mn, .bool false, .int .i64 mz, .int .i64 q1.o, .int .i64 q1.s, .int .i64 q1.n] 40)).heap.size (w.alloc (.cells #[.int .i64 26, .string t1, .bool g1, .slice a1 b1 c1, .int .i64 s1, .int .i64 mk, .int .i64 my, .int .i64 mm, .int .i64 md, .int .i64 ms, .int .i64 mn, .bool false, .int .i64 mz, .int .i64 q1.o, .int .i64 q1.s, .int .i64 q1.n] 40)) W) => (row_cell ((hW.block _ (by simp)).trans (M.nw_heap w (.cells #[.int .i64 26, .string t1, .bool g1, .slice a1 b1 c1, .int .i64 s1, .int .i64 mk, .int .i64 my, .int .i64 mm, .int .i64 md, .int .i64 ms, .int .i64 mn, .bool false, .int .i64 mz, .int .i64 q1.o, .int .i64 q1.s, .int .i64 q1.n] 40))) : W.cell? ⟨w.heap.size, 0, none⟩ = some (.int .i64 26))
  clear hI hw
  go_enter Tryz.func24, Tryz.ntmps24
  go_wp2_with (go_at_call 46; refine Calls.mono (HR.out _ (bel1 (bel1 (bel1 (Below.refl _ _) _) _) _) _ _ (HN.out _ (bel1 (bel1 (Below.refl _ _) _) _).size _ (by simp))) ?_; rintro e w9 ⟨rfl, hb9⟩)
  go_ret
  exact ⟨rfl, hb9⟩
set_option maxRecDepth 100000 in
set_option maxHeartbeats 1600000 in
theorem text_m26t (t1 : ByteArray) (g1 : Bool) (a1 : Option Addr) (b1 c1 : Nat) (s1 mk my mm md ms mn mz : Int) (q1 : Dt.Sp) {w : World} (hw : Lw w) (hI : ∀ n ∈ [my, mm, md, ms, mn, mz], I64 n) : Calls Tryz.prog 24 #[vlV 26 t1 g1 (.slice a1 b1 c1) s1 ⟨mk, my, mm, md, ms, mn, true, mz⟩ q1] w fun e w' => e = .returned (.string (rowT 26 [my, mm, md, ms, mn, mz])) ∧ Below w.heap.size w w' := by
  obtain ⟨i0, hi, hz, hzs, hby⟩ := info_n
  have HR : Hid _ := row_own 26 [my, mm, md, ms, mn, mz] hw (by simp) (by simp) hI
  have HN : Hid _ := fun W hW => own_new W [my, mm, md, ms, mn] w.heap.size hW (by simp)
  have HC : Hid _ := fun W (hW : Below (w.alloc (.cells #[.int .i64 26, .string t1, .bool g1, .slice a1 b1 c1, .int .i64 s1, .int .i64 mk, .int .i64 my, .int .i64 mm, .int .i64 md, .int .i64 ms, .int .i64 mn, .bool true, .int .i64 mz, .int .i64 q1.o, .int .i64 q1.s, .int .i64 q1.n] 40)).heap.size (w.alloc (.cells #[.int .i64 26, .string t1, .bool g1, .slice a1 b1 c1, .int .i64 s1, .int .i64 mk, .int .i64 my, .int .i64 mm, .int .i64 md, .int .i64 ms, .int .i64 mn, .bool true, .int .i64 mz, .int .i64 q1.o, .int .i64 q1.s, .int .i64 q1.n] 40)) W) => (row_cell ((hW.block _ (by simp)).trans (M.nw_heap w (.cells #[.int .i64 26, .string t1, .bool g1, .slice a1 b1 c1, .int .i64 s1, .int .i64 mk, .int .i64 my, .int .i64 mm, .int .i64 md, .int .i64 ms, .int .i64 mn, .bool true, .int .i64 mz, .int .i64 q1.o, .int .i64 q1.s, .int .i64 q1.n] 40))) : W.cell? ⟨w.heap.size, 0, none⟩ = some (.int .i64 26))
  clear hI hw
  go_enter Tryz.func24, Tryz.ntmps24
  go_wp2_with (first | (at_builtin; refine wpList_append_own _ rfl _ _ 60 rfl w.heap.size 3 i0 (.int .i64 0) 1 8 Tryz.underlying60 hi hz hzs hby rfl (by decide) _ _ _ rfl (M.row_below (HN.out _ (bel1 (bel1 (Below.refl _ _) _) _).size _ (by simp)) ((Below.refl _ _).alloc (Nat.le_refl _) _)) ⟨_, 0, none⟩ 1 1 [.int .i64 mz] rfl rfl (cell_one_at _ _ _ _ (by simp)) (by simp [Value.oneCell']) (by simp [maxLen]) (by simp) (by simp; omega) ?_; intro v' w7 hown7 hgr7 _; have hb7 : Hid (Below w.heap.size w w7) := grown_bel (bel1 (bel1 (bel1 (bel1 (Below.refl w.heap.size w) _) _) _) _) hgr7 (by omega); have ho7 : Hid _ := hown7; have hx7 : w7.cell? ⟨w.heap.size, 0, none⟩ = some (.int .i64 26) := grown_cell hgr7 (by simp; omega) (by omega) (HC.out _ (bel1 (bel1 (bel1 (Below.refl _ _) _) _) _)); clear hown7 hgr7) | (go_at_call 46; refine Calls.mono (HR.out _ hb7.out _ _ ho7.out) ?_; rintro e w9 ⟨rfl, hb9⟩))
  go_ret
  exact ⟨rfl, hb9⟩
set_option maxRecDepth 100000 in
set_option maxHeartbeats 1600000 in
theorem text_m27f (t1 : ByteArray) (g1 : Bool) (a1 : Option Addr) (b1 c1 : Nat) (s1 mk my mm md ms mn mz : Int) (q1 : Dt.Sp) {w : World} (hw : Lw w) (hI : ∀ n ∈ [my, mm, md, ms, mn], I64 n) : Calls Tryz.prog 24 #[vlV 27 t1 g1 (.slice a1 b1 c1) s1 ⟨mk, my, mm, md, ms, mn, false, mz⟩ q1] w fun e w' => e = .returned (.string (rowT 27 [my, mm, md, ms, mn])) ∧ Below w.heap.size w w' := by
  obtain ⟨i0, hi, hz, hzs, hby⟩ := info_n
  have HR : Hid _ := row_own 27 [my, mm, md, ms, mn] hw (by simp) (by simp) hI
  have HN : Hid _ := fun W hW => own_new W [my, mm, md, ms, mn] w.heap.size hW (by simp)
  have HC : Hid _ := fun W (hW : Below (w.alloc (.cells #[.int .i64 27, .string t1, .bool g1, .slice a1 b1 c1, .int .i64 s1, .int .i64 mk, .int .i64 my, .int .i64 mm, .int .i64 md, .int .i64 ms, .int .i64 mn, .bool false, .int .i64 mz, .int .i64 q1.o, .int .i64 q1.s, .int .i64 q1.n] 40)).heap.size (w.alloc (.cells #[.int .i64 27, .string t1, .bool g1, .slice a1 b1 c1, .int .i64 s1, .int .i64 mk, .int .i64 my, .int .i64 mm, .int .i64 md, .int .i64 ms, .int .i64 mn, .bool false, .int .i64 mz, .int .i64 q1.o, .int .i64 q1.s, .int .i64 q1.n] 40)) W) => (row_cell ((hW.block _ (by simp)).trans (M.nw_heap w (.cells #[.int .i64 27, .string t1, .bool g1, .slice a1 b1 c1, .int .i64 s1, .int .i64 mk, .int .i64 my, .int .i64 mm, .int .i64 md, .int .i64 ms, .int .i64 mn, .bool false, .int .i64 mz, .int .i64 q1.o, .int .i64 q1.s, .int .i64 q1.n] 40))) : W.cell? ⟨w.heap.size, 0, none⟩ = some (.int .i64 27))
  clear hI hw
  go_enter Tryz.func24, Tryz.ntmps24
  go_wp2_with (go_at_call 46; refine Calls.mono (HR.out _ (bel1 (bel1 (bel1 (Below.refl _ _) _) _) _) _ _ (HN.out _ (bel1 (bel1 (Below.refl _ _) _) _).size _ (by simp))) ?_; rintro e w9 ⟨rfl, hb9⟩)
  go_ret
  exact ⟨rfl, hb9⟩
set_option maxRecDepth 100000 in
set_option maxHeartbeats 1600000 in
theorem text_m27t (t1 : ByteArray) (g1 : Bool) (a1 : Option Addr) (b1 c1 : Nat) (s1 mk my mm md ms mn mz : Int) (q1 : Dt.Sp) {w : World} (hw : Lw w) (hI : ∀ n ∈ [my, mm, md, ms, mn, mz], I64 n) : Calls Tryz.prog 24 #[vlV 27 t1 g1 (.slice a1 b1 c1) s1 ⟨mk, my, mm, md, ms, mn, true, mz⟩ q1] w fun e w' => e = .returned (.string (rowT 27 [my, mm, md, ms, mn, mz])) ∧ Below w.heap.size w w' := by
  obtain ⟨i0, hi, hz, hzs, hby⟩ := info_n
  have HR : Hid _ := row_own 27 [my, mm, md, ms, mn, mz] hw (by simp) (by simp) hI
  have HN : Hid _ := fun W hW => own_new W [my, mm, md, ms, mn] w.heap.size hW (by simp)
  have HC : Hid _ := fun W (hW : Below (w.alloc (.cells #[.int .i64 27, .string t1, .bool g1, .slice a1 b1 c1, .int .i64 s1, .int .i64 mk, .int .i64 my, .int .i64 mm, .int .i64 md, .int .i64 ms, .int .i64 mn, .bool true, .int .i64 mz, .int .i64 q1.o, .int .i64 q1.s, .int .i64 q1.n] 40)).heap.size (w.alloc (.cells #[.int .i64 27, .string t1, .bool g1, .slice a1 b1 c1, .int .i64 s1, .int .i64 mk, .int .i64 my, .int .i64 mm, .int .i64 md, .int .i64 ms, .int .i64 mn, .bool true, .int .i64 mz, .int .i64 q1.o, .int .i64 q1.s, .int .i64 q1.n] 40)) W) => (row_cell ((hW.block _ (by simp)).trans (M.nw_heap w (.cells #[.int .i64 27, .string t1, .bool g1, .slice a1 b1 c1, .int .i64 s1, .int .i64 mk, .int .i64 my, .int .i64 mm, .int .i64 md, .int .i64 ms, .int .i64 mn, .bool true, .int .i64 mz, .int .i64 q1.o, .int .i64 q1.s, .int .i64 q1.n] 40))) : W.cell? ⟨w.heap.size, 0, none⟩ = some (.int .i64 27))
  clear hI hw
  go_enter Tryz.func24, Tryz.ntmps24
  go_wp2_with (first | (at_builtin; refine wpList_append_own _ rfl _ _ 60 rfl w.heap.size 3 i0 (.int .i64 0) 1 8 Tryz.underlying60 hi hz hzs hby rfl (by decide) _ _ _ rfl (M.row_below (HN.out _ (bel1 (bel1 (Below.refl _ _) _) _).size _ (by simp)) ((Below.refl _ _).alloc (Nat.le_refl _) _)) ⟨_, 0, none⟩ 1 1 [.int .i64 mz] rfl rfl (cell_one_at _ _ _ _ (by simp)) (by simp [Value.oneCell']) (by simp [maxLen]) (by simp) (by simp; omega) ?_; intro v' w7 hown7 hgr7 _; have hb7 : Hid (Below w.heap.size w w7) := grown_bel (bel1 (bel1 (bel1 (bel1 (Below.refl w.heap.size w) _) _) _) _) hgr7 (by omega); have ho7 : Hid _ := hown7; have hx7 : w7.cell? ⟨w.heap.size, 0, none⟩ = some (.int .i64 27) := grown_cell hgr7 (by simp; omega) (by omega) (HC.out _ (bel1 (bel1 (bel1 (Below.refl _ _) _) _) _)); clear hown7 hgr7) | (go_at_call 46; refine Calls.mono (HR.out _ hb7.out _ _ ho7.out) ?_; rintro e w9 ⟨rfl, hb9⟩))
  go_ret
  exact ⟨rfl, hb9⟩
set_option maxRecDepth 100000 in
set_option maxHeartbeats 1600000 in
theorem text_m28f (t1 : ByteArray) (g1 : Bool) (a1 : Option Addr) (b1 c1 : Nat) (s1 mk my mm md ms mn mz : Int) (q1 : Dt.Sp) {w : World} (hw : Lw w) (hI : ∀ n ∈ [my, mm, md, ms, mn], I64 n) : Calls Tryz.prog 24 #[vlV 28 t1 g1 (.slice a1 b1 c1) s1 ⟨mk, my, mm, md, ms, mn, false, mz⟩ q1] w fun e w' => e = .returned (.string (rowT 28 [my, mm, md, ms, mn])) ∧ Below w.heap.size w w' := by
  obtain ⟨i0, hi, hz, hzs, hby⟩ := info_n
  have HR : Hid _ := row_own 28 [my, mm, md, ms, mn] hw (by simp) (by simp) hI
  have HN : Hid _ := fun W hW => own_new W [my, mm, md, ms, mn] w.heap.size hW (by simp)
  have HC : Hid _ := fun W (hW : Below (w.alloc (.cells #[.int .i64 28, .string t1, .bool g1, .slice a1 b1 c1, .int .i64 s1, .int .i64 mk, .int .i64 my, .int .i64 mm, .int .i64 md, .int .i64 ms, .int .i64 mn, .bool false, .int .i64 mz, .int .i64 q1.o, .int .i64 q1.s, .int .i64 q1.n] 40)).heap.size (w.alloc (.cells #[.int .i64 28, .string t1, .bool g1, .slice a1 b1 c1, .int .i64 s1, .int .i64 mk, .int .i64 my, .int .i64 mm, .int .i64 md, .int .i64 ms, .int .i64 mn, .bool false, .int .i64 mz, .int .i64 q1.o, .int .i64 q1.s, .int .i64 q1.n] 40)) W) => (row_cell ((hW.block _ (by simp)).trans (M.nw_heap w (.cells #[.int .i64 28, .string t1, .bool g1, .slice a1 b1 c1, .int .i64 s1, .int .i64 mk, .int .i64 my, .int .i64 mm, .int .i64 md, .int .i64 ms, .int .i64 mn, .bool false, .int .i64 mz, .int .i64 q1.o, .int .i64 q1.s, .int .i64 q1.n] 40))) : W.cell? ⟨w.heap.size, 0, none⟩ = some (.int .i64 28))
  clear hI hw
  go_enter Tryz.func24, Tryz.ntmps24
  go_wp2_with (go_at_call 46; refine Calls.mono (HR.out _ (bel1 (bel1 (bel1 (Below.refl _ _) _) _) _) _ _ (HN.out _ (bel1 (bel1 (Below.refl _ _) _) _).size _ (by simp))) ?_; rintro e w9 ⟨rfl, hb9⟩)
  go_ret
  exact ⟨rfl, hb9⟩
set_option maxRecDepth 100000 in
set_option maxHeartbeats 1600000 in
theorem text_m28t (t1 : ByteArray) (g1 : Bool) (a1 : Option Addr) (b1 c1 : Nat) (s1 mk my mm md ms mn mz : Int) (q1 : Dt.Sp) {w : World} (hw : Lw w) (hI : ∀ n ∈ [my, mm, md, ms, mn, mz], I64 n) : Calls Tryz.prog 24 #[vlV 28 t1 g1 (.slice a1 b1 c1) s1 ⟨mk, my, mm, md, ms, mn, true, mz⟩ q1] w fun e w' => e = .returned (.string (rowT 28 [my, mm, md, ms, mn, mz])) ∧ Below w.heap.size w w' := by
  obtain ⟨i0, hi, hz, hzs, hby⟩ := info_n
  have HR : Hid _ := row_own 28 [my, mm, md, ms, mn, mz] hw (by simp) (by simp) hI
  have HN : Hid _ := fun W hW => own_new W [my, mm, md, ms, mn] w.heap.size hW (by simp)
  have HC : Hid _ := fun W (hW : Below (w.alloc (.cells #[.int .i64 28, .string t1, .bool g1, .slice a1 b1 c1, .int .i64 s1, .int .i64 mk, .int .i64 my, .int .i64 mm, .int .i64 md, .int .i64 ms, .int .i64 mn, .bool true, .int .i64 mz, .int .i64 q1.o, .int .i64 q1.s, .int .i64 q1.n] 40)).heap.size (w.alloc (.cells #[.int .i64 28, .string t1, .bool g1, .slice a1 b1 c1, .int .i64 s1, .int .i64 mk, .int .i64 my, .int .i64 mm, .int .i64 md, .int .i64 ms, .int .i64 mn, .bool true, .int .i64 mz, .int .i64 q1.o, .int .i64 q1.s, .int .i64 q1.n] 40)) W) => (row_cell ((hW.block _ (by simp)).trans (M.nw_heap w (.cells #[.int .i64 28, .string t1, .bool g1, .slice a1 b1 c1, .int .i64 s1, .int .i64 mk, .int .i64 my, .int .i64 mm, .int .i64 md, .int .i64 ms, .int .i64 mn, .bool true, .int .i64 mz, .int .i64 q1.o, .int .i64 q1.s, .int .i64 q1.n] 40))) : W.cell? ⟨w.heap.size, 0, none⟩ = some (.int .i64 28))
  clear hI hw
  go_enter Tryz.func24, Tryz.ntmps24
  go_wp2_with (first | (at_builtin; refine wpList_append_own _ rfl _ _ 60 rfl w.heap.size 3 i0 (.int .i64 0) 1 8 Tryz.underlying60 hi hz hzs hby rfl (by decide) _ _ _ rfl (M.row_below (HN.out _ (bel1 (bel1 (Below.refl _ _) _) _).size _ (by simp)) ((Below.refl _ _).alloc (Nat.le_refl _) _)) ⟨_, 0, none⟩ 1 1 [.int .i64 mz] rfl rfl (cell_one_at _ _ _ _ (by simp)) (by simp [Value.oneCell']) (by simp [maxLen]) (by simp) (by simp; omega) ?_; intro v' w7 hown7 hgr7 _; have hb7 : Hid (Below w.heap.size w w7) := grown_bel (bel1 (bel1 (bel1 (bel1 (Below.refl w.heap.size w) _) _) _) _) hgr7 (by omega); have ho7 : Hid _ := hown7; have hx7 : w7.cell? ⟨w.heap.size, 0, none⟩ = some (.int .i64 28) := grown_cell hgr7 (by simp; omega) (by omega) (HC.out _ (bel1 (bel1 (bel1 (Below.refl _ _) _) _) _)); clear hown7 hgr7) | (go_at_call 46; refine Calls.mono (HR.out _ hb7.out _ _ ho7.out) ?_; rintro e w9 ⟨rfl, hb9⟩))
  go_ret
  exact ⟨rfl, hb9⟩
set_option maxRecDepth 100000 in
set_option maxHeartbeats 1600000 in
theorem text_m29f (t1 : ByteArray) (g1 : Bool) (a1 : Option Addr) (b1 c1 : Nat) (s1 mk my mm md ms mn mz : Int) (q1 : Dt.Sp) {w : World} (hw : Lw w) (hI : ∀ n ∈ [my, mm, md, ms, mn], I64 n) : Calls Tryz.prog 24 #[vlV 29 t1 g1 (.slice a1 b1 c1) s1 ⟨mk, my, mm, md, ms, mn, false, mz⟩ q1] w fun e w' => e = .returned (.string (rowT 29 [my, mm, md, ms, mn])) ∧ Below w.heap.size w w' := by
  obtain ⟨i0, hi, hz, hzs, hby⟩ := info_n
  have HR : Hid _ := row_own 29 [my, mm, md, ms, mn] hw (by simp) (by simp) hI
  have HN : Hid _ := fun W hW => own_new W [my, mm, md, ms, mn] w.heap.size hW (by simp)
  have HC : Hid _ := fun W (hW : Below (w.alloc (.cells #[.int .i64 29, .string t1, .bool g1, .slice a1 b1 c1, .int .i64 s1, .int .i64 mk, .int .i64 my, .int .i64 mm, .int .i64 md, .int .i64 ms, .int .i64 mn, .bool false, .int .i64 mz, .int .i64 q1.o, .int .i64 q1.s, .int .i64 q1.n] 40)).heap.size (w.alloc (.cells #[.int .i64 29, .string t1, .bool g1, .slice a1 b1 c1, .int .i64 s1, .int .i64 mk, .int .i64 my, .int .i64 mm, .int .i64 md, .int .i64 ms, .int .i64 mn, .bool false, .int .i64 mz, .int .i64 q1.o, .int .i64 q1.s, .int .i64 q1.n] 40)) W) => (row_cell ((hW.block _ (by simp)).trans (M.nw_heap w (.cells #[.int .i64 29, .string t1, .bool g1, .slice a1 b1 c1, .int .i64 s1, .int .i64 mk, .int .i64 my, .int .i64 mm, .int .i64 md, .int .i64 ms, .int .i64 mn, .bool false, .int .i64 mz, .int .i64 q1.o, .int .i64 q1.s, .int .i64 q1.n] 40))) : W.cell? ⟨w.heap.size, 0, none⟩ = some (.int .i64 29))
  clear hI hw
  go_enter Tryz.func24, Tryz.ntmps24
  go_wp2_with (go_at_call 46; refine Calls.mono (HR.out _ (bel1 (bel1 (bel1 (Below.refl _ _) _) _) _) _ _ (HN.out _ (bel1 (bel1 (Below.refl _ _) _) _).size _ (by simp))) ?_; rintro e w9 ⟨rfl, hb9⟩)
  go_ret
  exact ⟨rfl, hb9⟩
set_option maxRecDepth 100000 in
set_option maxHeartbeats 1600000 in
theorem text_m29t (t1 : ByteArray) (g1 : Bool) (a1 : Option Addr) (b1 c1 : Nat) (s1 mk my mm md ms mn mz : Int) (q1 : Dt.Sp) {w : World} (hw : Lw w) (hI : ∀ n ∈ [my, mm, md, ms, mn, mz], I64 n) : Calls Tryz.prog 24 #[vlV 29 t1 g1 (.slice a1 b1 c1) s1 ⟨mk, my, mm, md, ms, mn, true, mz⟩ q1] w fun e w' => e = .returned (.string (rowT 29 [my, mm, md, ms, mn, mz])) ∧ Below w.heap.size w w' := by
  obtain ⟨i0, hi, hz, hzs, hby⟩ := info_n
  have HR : Hid _ := row_own 29 [my, mm, md, ms, mn, mz] hw (by simp) (by simp) hI
  have HN : Hid _ := fun W hW => own_new W [my, mm, md, ms, mn] w.heap.size hW (by simp)
  have HC : Hid _ := fun W (hW : Below (w.alloc (.cells #[.int .i64 29, .string t1, .bool g1, .slice a1 b1 c1, .int .i64 s1, .int .i64 mk, .int .i64 my, .int .i64 mm, .int .i64 md, .int .i64 ms, .int .i64 mn, .bool true, .int .i64 mz, .int .i64 q1.o, .int .i64 q1.s, .int .i64 q1.n] 40)).heap.size (w.alloc (.cells #[.int .i64 29, .string t1, .bool g1, .slice a1 b1 c1, .int .i64 s1, .int .i64 mk, .int .i64 my, .int .i64 mm, .int .i64 md, .int .i64 ms, .int .i64 mn, .bool true, .int .i64 mz, .int .i64 q1.o, .int .i64 q1.s, .int .i64 q1.n] 40)) W) => (row_cell ((hW.block _ (by simp)).trans (M.nw_heap w (.cells #[.int .i64 29, .string t1, .bool g1, .slice a1 b1 c1, .int .i64 s1, .int .i64 mk, .int .i64 my, .int .i64 mm, .int .i64 md, .int .i64 ms, .int .i64 mn, .bool true, .int .i64 mz, .int .i64 q1.o, .int .i64 q1.s, .int .i64 q1.n] 40))) : W.cell? ⟨w.heap.size, 0, none⟩ = some (.int .i64 29))
  clear hI hw
  go_enter Tryz.func24, Tryz.ntmps24
  go_wp2_with (first | (at_builtin; refine wpList_append_own _ rfl _ _ 60 rfl w.heap.size 3 i0 (.int .i64 0) 1 8 Tryz.underlying60 hi hz hzs hby rfl (by decide) _ _ _ rfl (M.row_below (HN.out _ (bel1 (bel1 (Below.refl _ _) _) _).size _ (by simp)) ((Below.refl _ _).alloc (Nat.le_refl _) _)) ⟨_, 0, none⟩ 1 1 [.int .i64 mz] rfl rfl (cell_one_at _ _ _ _ (by simp)) (by simp [Value.oneCell']) (by simp [maxLen]) (by simp) (by simp; omega) ?_; intro v' w7 hown7 hgr7 _; have hb7 : Hid (Below w.heap.size w w7) := grown_bel (bel1 (bel1 (bel1 (bel1 (Below.refl w.heap.size w) _) _) _) _) hgr7 (by omega); have ho7 : Hid _ := hown7; have hx7 : w7.cell? ⟨w.heap.size, 0, none⟩ = some (.int .i64 29) := grown_cell hgr7 (by simp; omega) (by omega) (HC.out _ (bel1 (bel1 (bel1 (Below.refl _ _) _) _) _)); clear hown7 hgr7) | (go_at_call 46; refine Calls.mono (HR.out _ hb7.out _ _ ho7.out) ?_; rintro e w9 ⟨rfl, hb9⟩))
  go_ret
  exact ⟨rfl, hb9⟩
set_option maxRecDepth 100000 in
set_option maxHeartbeats 1600000 in
theorem text_m30f (t1 : ByteArray) (g1 : Bool) (a1 : Option Addr) (b1 c1 : Nat) (s1 mk my mm md ms mn mz : Int) (q1 : Dt.Sp) {w : World} (hw : Lw w) (hI : ∀ n ∈ [my, mm, md, ms, mn], I64 n) : Calls Tryz.prog 24 #[vlV 30 t1 g1 (.slice a1 b1 c1) s1 ⟨mk, my, mm, md, ms, mn, false, mz⟩ q1] w fun e w' => e = .returned (.string (rowT 30 [my, mm, md, ms, mn])) ∧ Below w.heap.size w w' := by
  obtain ⟨i0, hi, hz, hzs, hby⟩ := info_n
  have HR : Hid _ := row_own 30 [my, mm, md, ms, mn] hw (by simp) (by simp) hI
  have HN : Hid _ := fun W hW => own_new W [my, mm, md, ms, mn] w.heap.size hW (by simp)
  have HC : Hid _ := fun W (hW : Below (w.alloc (.cells #[.int .i64 30, .string t1, .bool g1, .slice a1 b1 c1, .int .i64 s1, .int .i64 mk, .int .i64 my, .int .i64 mm, .int .i64 md, .int .i64 ms, .int .i64 mn, .bool false, .int .i64 mz, .int .i64 q1.o, .int .i64 q1.s, .int .i64 q1.n] 40)).heap.size (w.alloc (.cells #[.int .i64 30, .string t1, .bool g1, .slice a1 b1 c1, .int .i64 s1, .int .i64 mk, .int .i64 my, .int .i64 mm, .int .i64 md, .int .i64 ms, .int .i64 mn, .bool false, .int .i64 mz, .int .i64 q1.o, .int .i64 q1.s, .int .i64 q1.n] 40)) W) => (row_cell ((hW.block _ (by simp)).trans (M.nw_heap w (.cells #[.int .i64 30, .string t1, .bool g1, .slice a1 b1 c1, .int .i64 s1, .int .i64 mk, .int .i64 my, .int .i64 mm, .int .i64 md, .int .i64 ms, .int .i64 mn, .bool false, .int .i64 mz, .int .i64 q1.o, .int .i64 q1.s, .int .i64 q1.n] 40))) : W.cell? ⟨w.heap.size, 0, none⟩ = some (.int .i64 30))
  clear hI hw
  go_enter Tryz.func24, Tryz.ntmps24
  go_wp2_with (go_at_call 46; refine Calls.mono (HR.out _ (bel1 (bel1 (bel1 (Below.refl _ _) _) _) _) _ _ (HN.out _ (bel1 (bel1 (Below.refl _ _) _) _).size _ (by simp))) ?_; rintro e w9 ⟨rfl, hb9⟩)
  go_ret
  exact ⟨rfl, hb9⟩
set_option maxRecDepth 100000 in
set_option maxHeartbeats 1600000 in
theorem text_m30t (t1 : ByteArray) (g1 : Bool) (a1 : Option Addr) (b1 c1 : Nat) (s1 mk my mm md ms mn mz : Int) (q1 : Dt.Sp) {w : World} (hw : Lw w) (hI : ∀ n ∈ [my, mm, md, ms, mn, mz], I64 n) : Calls Tryz.prog 24 #[vlV 30 t1 g1 (.slice a1 b1 c1) s1 ⟨mk, my, mm, md, ms, mn, true, mz⟩ q1] w fun e w' => e = .returned (.string (rowT 30 [my, mm, md, ms, mn, mz])) ∧ Below w.heap.size w w' := by
  obtain ⟨i0, hi, hz, hzs, hby⟩ := info_n
  have HR : Hid _ := row_own 30 [my, mm, md, ms, mn, mz] hw (by simp) (by simp) hI
  have HN : Hid _ := fun W hW => own_new W [my, mm, md, ms, mn] w.heap.size hW (by simp)
  have HC : Hid _ := fun W (hW : Below (w.alloc (.cells #[.int .i64 30, .string t1, .bool g1, .slice a1 b1 c1, .int .i64 s1, .int .i64 mk, .int .i64 my, .int .i64 mm, .int .i64 md, .int .i64 ms, .int .i64 mn, .bool true, .int .i64 mz, .int .i64 q1.o, .int .i64 q1.s, .int .i64 q1.n] 40)).heap.size (w.alloc (.cells #[.int .i64 30, .string t1, .bool g1, .slice a1 b1 c1, .int .i64 s1, .int .i64 mk, .int .i64 my, .int .i64 mm, .int .i64 md, .int .i64 ms, .int .i64 mn, .bool true, .int .i64 mz, .int .i64 q1.o, .int .i64 q1.s, .int .i64 q1.n] 40)) W) => (row_cell ((hW.block _ (by simp)).trans (M.nw_heap w (.cells #[.int .i64 30, .string t1, .bool g1, .slice a1 b1 c1, .int .i64 s1, .int .i64 mk, .int .i64 my, .int .i64 mm, .int .i64 md, .int .i64 ms, .int .i64 mn, .bool true, .int .i64 mz, .int .i64 q1.o, .int .i64 q1.s, .int .i64 q1.n] 40))) : W.cell? ⟨w.heap.size, 0, none⟩ = some (.int .i64 30))
  clear hI hw
  go_enter Tryz.func24, Tryz.ntmps24
  go_wp2_with (first | (at_builtin; refine wpList_append_own _ rfl _ _ 60 rfl w.heap.size 3 i0 (.int .i64 0) 1 8 Tryz.underlying60 hi hz hzs hby rfl (by decide) _ _ _ rfl (M.row_below (HN.out _ (bel1 (bel1 (Below.refl _ _) _) _).size _ (by simp)) ((Below.refl _ _).alloc (Nat.le_refl _) _)) ⟨_, 0, none⟩ 1 1 [.int .i64 mz] rfl rfl (cell_one_at _ _ _ _ (by simp)) (by simp [Value.oneCell']) (by simp [maxLen]) (by simp) (by simp; omega) ?_; intro v' w7 hown7 hgr7 _; have hb7 : Hid (Below w.heap.size w w7) := grown_bel (bel1 (bel1 (bel1 (bel1 (Below.refl w.heap.size w) _) _) _) _) hgr7 (by omega); have ho7 : Hid _ := hown7; have hx7 : w7.cell? ⟨w.heap.size, 0, none⟩ = some (.int .i64 30) := grown_cell hgr7 (by simp; omega) (by omega) (HC.out _ (bel1 (bel1 (bel1 (Below.refl _ _) _) _) _)); clear hown7 hgr7) | (go_at_call 46; refine Calls.mono (HR.out _ hb7.out _ _ ho7.out) ?_; rintro e w9 ⟨rfl, hb9⟩))
  go_ret
  exact ⟨rfl, hb9⟩
set_option maxRecDepth 100000 in
set_option maxHeartbeats 1600000 in
theorem text_m31f (t1 : ByteArray) (g1 : Bool) (a1 : Option Addr) (b1 c1 : Nat) (s1 mk my mm md ms mn mz : Int) (q1 : Dt.Sp) {w : World} (hw : Lw w) (hI : ∀ n ∈ [my, mm, md, ms, mn], I64 n) : Calls Tryz.prog 24 #[vlV 31 t1 g1 (.slice a1 b1 c1) s1 ⟨mk, my, mm, md, ms, mn, false, mz⟩ q1] w fun e w' => e = .returned (.string (rowT 31 [my, mm, md, ms, mn])) ∧ Below w.heap.size w w' := by
  obtain ⟨i0, hi, hz, hzs, hby⟩ := info_n
  have HR : Hid _ := row_own 31 [my, mm, md, ms, mn] hw (by simp) (by simp) hI
  have HN : Hid _ := fun W hW => own_new W [my, mm, md, ms, mn] w.heap.size hW (by simp)
  have HC : Hid _ := fun W (hW : Below (w.alloc (.cells #[.int .i64 31, .string t1, .bool g1, .slice a1 b1 c1, .int .i64 s1, .int .i64 mk, .int .i64 my, .int .i64 mm, .int .i64 md, .int .i64 ms, .int .i64 mn, .bool false, .int .i64 mz, .int .i64 q1.o, .int .i64 q1.s, .int .i64 q1.n] 40)).heap.size (w.alloc (.cells #[.int .i64 31, .string t1, .bool g1, .slice a1 b1 c1, .int .i64 s1, .int .i64 mk, .int .i64 my, .int .i64 mm, .int .i64 md, .int .i64 ms, .int .i64 mn, .bool false, .int .i64 mz, .int .i64 q1.o, .int .i64 q1.s, .int .i64 q1.n] 40)) W) => (row_cell ((hW.block _ (by simp)).trans (M.nw_heap w (.cells #[.int .i64 31, .string t1, .bool g1, .slice a1 b1 c1, .int .i64 s1, .int .i64 mk, .int .i64 my, .int .i64 mm, .int .i64 md, .int .i64 ms, .int .i64 mn, .bool false, .int .i64 mz, .int .i64 q1.o, .int .i64 q1.s, .int .i64 q1.n] 40))) : W.cell? ⟨w.heap.size, 0, none⟩ = some (.int .i64 31))
  clear hI hw
  go_enter Tryz.func24, Tryz.ntmps24
  go_wp2_with (go_at_call 46; refine Calls.mono (HR.out _ (bel1 (bel1 (bel1 (Below.refl _ _) _) _) _) _ _ (HN.out _ (bel1 (bel1 (Below.refl _ _) _) _).size _ (by simp))) ?_; rintro e w9 ⟨rfl, hb9⟩)
  go_ret
  exact ⟨rfl, hb9⟩
set_option maxRecDepth 100000 in
set_option maxHeartbeats 1600000 in
theorem text_m31t (t1 : ByteArray) (g1 : Bool) (a1 : Option Addr) (b1 c1 : Nat) (s1 mk my mm md ms mn mz : Int) (q1 : Dt.Sp) {w : World} (hw : Lw w) (hI : ∀ n ∈ [my, mm, md, ms, mn, mz], I64 n) : Calls Tryz.prog 24 #[vlV 31 t1 g1 (.slice a1 b1 c1) s1 ⟨mk, my, mm, md, ms, mn, true, mz⟩ q1] w fun e w' => e = .returned (.string (rowT 31 [my, mm, md, ms, mn, mz])) ∧ Below w.heap.size w w' := by
  obtain ⟨i0, hi, hz, hzs, hby⟩ := info_n
  have HR : Hid _ := row_own 31 [my, mm, md, ms, mn, mz] hw (by simp) (by simp) hI
  have HN : Hid _ := fun W hW => own_new W [my, mm, md, ms, mn] w.heap.size hW (by simp)
  have HC : Hid _ := fun W (hW : Below (w.alloc (.cells #[.int .i64 31, .string t1, .bool g1, .slice a1 b1 c1, .int .i64 s1, .int .i64 mk, .int .i64 my, .int .i64 mm, .int .i64 md, .int .i64 ms, .int .i64 mn, .bool true, .int .i64 mz, .int .i64 q1.o, .int .i64 q1.s, .int .i64 q1.n] 40)).heap.size (w.alloc (.cells #[.int .i64 31, .string t1, .bool g1, .slice a1 b1 c1, .int .i64 s1, .int .i64 mk, .int .i64 my, .int .i64 mm, .int .i64 md, .int .i64 ms, .int .i64 mn, .bool true, .int .i64 mz, .int .i64 q1.o, .int .i64 q1.s, .int .i64 q1.n] 40)) W) => (row_cell ((hW.block _ (by simp)).trans (M.nw_heap w (.cells #[.int .i64 31, .string t1, .bool g1, .slice a1 b1 c1, .int .i64 s1, .int .i64 mk, .int .i64 my, .int .i64 mm, .int .i64 md, .int .i64 ms, .int .i64 mn, .bool true, .int .i64 mz, .int .i64 q1.o, .int .i64 q1.s, .int .i64 q1.n] 40))) : W.cell? ⟨w.heap.size, 0, none⟩ = some (.int .i64 31))
  clear hI hw
  go_enter Tryz.func24, Tryz.ntmps24
  go_wp2_with (first | (at_builtin; refine wpList_append_own _ rfl _ _ 60 rfl w.heap.size 3 i0 (.int .i64 0) 1 8 Tryz.underlying60 hi hz hzs hby rfl (by decide) _ _ _ rfl (M.row_below (HN.out _ (bel1 (bel1 (Below.refl _ _) _) _).size _ (by simp)) ((Below.refl _ _).alloc (Nat.le_refl _) _)) ⟨_, 0, none⟩ 1 1 [.int .i64 mz] rfl rfl (cell_one_at _ _ _ _ (by simp)) (by simp [Value.oneCell']) (by simp [maxLen]) (by simp) (by simp; omega) ?_; intro v' w7 hown7 hgr7 _; have hb7 : Hid (Below w.heap.size w w7) := grown_bel (bel1 (bel1 (bel1 (bel1 (Below.refl w.heap.size w) _) _) _) _) hgr7 (by omega); have ho7 : Hid _ := hown7; have hx7 : w7.cell? ⟨w.heap.size, 0, none⟩ = some (.int .i64 31) := grown_cell hgr7 (by simp; omega) (by omega) (HC.out _ (bel1 (bel1 (bel1 (Below.refl _ _) _) _) _)); clear hown7 hgr7) | (go_at_call 46; refine Calls.mono (HR.out _ hb7.out _ _ ho7.out) ?_; rintro e w9 ⟨rfl, hb9⟩))
  go_ret
  exact ⟨rfl, hb9⟩
theorem text_a {w : World} {v : Value} {d : Kd} (hw : Lw w) (h : VlA w v d) (o1 : KdOk d) : Calls Tryz.prog 24 #[v] w fun e w' => e = .returned (.string (txK d)) ∧ Below w.heap.size w w' := by
  obtain ⟨a, c, rfl, hb⟩ := h
  cases d with
  | txt p t => exact textT p o1 t _ _ _ _ _ _ _ w
  | num n => exact textN ⟨#[]⟩ _ _ ⟨hb, o1.1, o1.2⟩
  | spn q => exact text_spn _ _ _ _ _ _ _ _ hw o1
  | mom k m =>
    obtain ⟨h0, h1, hl⟩ := o1
    obtain ⟨i1, i2, i3, i4, i5, i6⟩ := mo_I hl
    obtain ⟨mk, my, mm, md, ms, mn, mh, mz⟩ := m
    cases mh with
    | false =>
      have hI : ∀ n ∈ [my, mm, md, ms, mn], I64 n := by
        intro n hn
        simp only [List.mem_cons, List.not_mem_nil, or_false] at hn
        rcases hn with rfl | rfl | rfl | rfl | rfl <;> assumption
      rcases (by omega : k = 24 ∨ k = 25 ∨ k = 26 ∨ k = 27 ∨ k = 28 ∨ k = 29 ∨ k = 30 ∨ k = 31) with rfl | rfl | rfl | rfl | rfl | rfl | rfl | rfl
      · exact text_m24f _ _ _ _ _ _ _ _ _ _ _ _ _ _ hw hI
      · exact text_m25f _ _ _ _ _ _ _ _ _ _ _ _ _ _ hw hI
      · exact text_m26f _ _ _ _ _ _ _ _ _ _ _ _ _ _ hw hI
      · exact text_m27f _ _ _ _ _ _ _ _ _ _ _ _ _ _ hw hI
      · exact text_m28f _ _ _ _ _ _ _ _ _ _ _ _ _ _ hw hI
      · exact text_m29f _ _ _ _ _ _ _ _ _ _ _ _ _ _ hw hI
      · exact text_m30f _ _ _ _ _ _ _ _ _ _ _ _ _ _ hw hI
      · exact text_m31f _ _ _ _ _ _ _ _ _ _ _ _ _ _ hw hI
    | true =>
      have hI : ∀ n ∈ [my, mm, md, ms, mn, mz], I64 n := by
        intro n hn
        simp only [List.mem_cons, List.not_mem_nil, or_false] at hn
        rcases hn with rfl | rfl | rfl | rfl | rfl | rfl <;> assumption
      rcases (by omega : k = 24 ∨ k = 25 ∨ k = 26 ∨ k = 27 ∨ k = 28 ∨ k = 29 ∨ k = 30 ∨ k = 31) with rfl | rfl | rfl | rfl | rfl | rfl | rfl | rfl
      · exact text_m24t _ _ _ _ _ _ _ _ _ _ _ _ _ _ hw hI
      · exact text_m25t _ _ _ _ _ _ _ _ _ _ _ _ _ _ hw hI
      · exact text_m26t _ _ _ _ _ _ _ _ _ _ _ _ _ _ hw hI
      · exact text_m27t _ _ _ _ _ _ _ _ _ _ _ _ _ _ hw hI
      · exact text_m28t _ _ _ _ _ _ _ _ _ _ _ _ _ _ hw hI
      · exact text_m29t _ _ _ _ _ _ _ _ _ _ _ _ _ _ hw hI
      · exact text_m30t _ _ _ _ _ _ _ _ _ _ _ _ _ _ hw hI
      · exact text_m31t _ _ _ _ _ _ _ _ _ _ _ _ _ _ hw hI
end Go.Proofs.YtgaegajcejpmdaaGreatDoor
namespace Go.Proofs.YtgaegajcejpmdaaGreatDoor
open Go.RowKit
set_option linter.unusedVariables false
set_option linter.unusedSimpArgs false

theorem parse_about (k : Int) (s b : ByteArray) (w : World) (hs : (b ++ s ++ b).size ≤ 100000) (hk : whS k = 3) (h : Wht (Ch.bl b)) (hw : Lw w) : Calls Tryz.prog 21 #[.int .i64 k, .string (b ++ s ++ b)] w (PqP k s w) := by
  refine (parse_q k (b ++ s ++ b) w hs hw).mono fun e w' q => ?_
  unfold PqP at q ⊢
  rw [er_about hk h, o_about hk h] at q
  exact q
theorem same_self {w : World} {v1 v2 : Value} {d : Kd} (h1 : VlA w v1 d) (h2 : VlA w v2 d) (o1 : KdOk d) : Calls Tryz.prog 26 #[v1, v2] w fun e w' => e = .returned (.bool true) ∧ Below w.heap.size w w' := by
  have h := same_p h1 h2 o1 o1
  rw [cmp_self o1] at h
  exact h
set_option maxRecDepth 100000 in
set_option maxHeartbeats 25600000 in
theorem blanks_s (k : Int) (s : ByteArray) (va : Option Addr) (n vc : Nat) (zs : List Int) (w : World) (hw : Lw w) (hz : Dc.BtR w (.slice va n vc) zs) : Calls Tryz.prog 7 #[.int .i64 k, .string s, .slice va n vc] w fun e w' => e = .returned (.bool true) ∧ Below w.heap.size w w' := by
  obtain ⟨hn, hlc, hcm⟩ := hz.lim
  have hby := hz.byte
  subst hn
  by_cases a1 : 100 < s.size
  · have b1 : (100 : Int) < (s.size : Int) := by omega
    go_enter Tryz.func7, Tryz.ntmps7
    go_wp2_with (first | (go_at_call 8; refine Calls.mono (known_l _ hw) ?_; rintro e w1 ⟨rfl, hb1⟩; have HB1 : Hid _ := hb1; clear hb1) | (go_at_call 17; refine Calls.mono (white_k _ _) ?_; rintro e w2 ⟨rfl, hw2⟩; have hw3 := hw2.symm; clear hw2; subst hw3))
    go_ret
    exact ⟨rfl, HB1.out⟩
  have b1 : ¬ ((100 : Int) < (s.size : Int)) := by omega
  by_cases a2 : 20 < zs.length
  · have b2 : (20 : Int) < (zs.length : Int) := by omega
    go_enter Tryz.func7, Tryz.ntmps7
    go_wp2_with (first | (go_at_call 8; refine Calls.mono (known_l _ hw) ?_; rintro e w1 ⟨rfl, hb1⟩; have HB1 : Hid _ := hb1; clear hb1) | (go_at_call 17; refine Calls.mono (white_k _ _) ?_; rintro e w2 ⟨rfl, hw2⟩; have hw3 := hw2.symm; clear hw2; subst hw3))
    go_ret
    exact ⟨rfl, HB1.out⟩
  have b2 : ¬ ((20 : Int) < (zs.length : Int)) := by omega
  by_cases a3 : whS k = 3
  case neg =>
    have b3 : (whS k != 3) = true := by simpa using a3
    clear a3
    go_enter Tryz.func7, Tryz.ntmps7
    go_wp2_with (first | (go_at_call 8; refine Calls.mono (known_l _ hw) ?_; rintro e w1 ⟨rfl, hb1⟩; have HB1 : Hid _ := hb1; clear hb1) | (go_at_call 17; refine Calls.mono (white_k _ _) ?_; rintro e w2 ⟨rfl, hw2⟩; have hw3 := hw2.symm; clear hw2; subst hw3))
    go_ret
    exact ⟨rfl, HB1.out⟩
  have b3 : (whS k != 3) = false := by simpa using a3
  have HZ : Hid _ := And.intro hz (And.intro hby (And.intro a3 (And.intro a1 a2)))
  clear hz hby a3
  have hzl : zs.length ≤ 20 := by omega
  have hsl : s.size ≤ 100 := by omega
  clear a1 a2
  go_enter Tryz.func7, Tryz.ntmps7
  go_wp2_with (first | (go_at_call 8; refine Calls.mono (known_l _ hw) ?_; rintro e w1 ⟨rfl, hb1⟩; have HB1 : Hid _ := hb1; clear hb1) | (go_at_call 17; refine Calls.mono (white_k _ _) ?_; rintro e w2 ⟨rfl, hw2⟩; have hw3 := hw2.symm; clear hw2; subst hw3))
  go_loopg [7, 8] zs.length (fun q v7 v8 wr => ∃ (j : Nat) (b : ByteArray), j + q = zs.length ∧ v8 = .int .i64 (j : Int) ∧ v7 = .string b ∧ b.size = j ∧ Wht (Ch.bl b) ∧ Below w.heap.size w wr)
  case atStart => exact ⟨0, ⟨#[]⟩, by omega, rfl, rfl, rfl, Wht.nil, HB1.out⟩
  case round =>
    obtain ⟨j, b, hjq, rfl, rfl, hbs, hwh, hbel⟩ := hrel
    by_cases hlt : j < zs.length
    · obtain ⟨q, rfl⟩ : ∃ q, gk = q + 1 := ⟨gk - 1, by omega⟩
      obtain ⟨g, o, rfl, hg, hcl⟩ := HZ.out.1.cell (by intro h; rw [h] at hlt; simp at hlt)
      have hc := (hbel.cell (p := ⟨g, o + j, none⟩) hg).trans (hcl j hlt)
      have hx := HZ.out.2.1 zs[j] (List.getElem_mem hlt)
      have hd : (wr.alloc (.cells #[.string ⟨#[32]⟩, .string ⟨#[9]⟩, .string ⟨#[10]⟩, .string ⟨#[13]⟩] 9)).cell? ⟨g, o + j, none⟩ = some (.int .u8 zs[j]) := (((Below.refl wr.heap.size wr).alloc (Nat.le_refl _) _).cell (p := ⟨g, o + j, none⟩) (Nat.lt_of_lt_of_le hg hbel.size)).trans hc
      have HQ : Hid _ := And.intro hbs (And.intro hwh hbel)
      clear hbs hwh hbel hcl
      generalize zs[j] = x at *
      have hbz : b.size ≤ 20 := by have := HQ.out.1; omega
      rcases (by omega : x % 4 = 0 ∨ x % 4 = 1 ∨ x % 4 = 2 ∨ x % 4 = 3) with hm | hm | hm | hm
      all_goals
        have ht : Int.tmod x 4 = x % 4 := Int.tmod_eq_emod_of_nonneg hx.1
        rw [hm] at ht
        go_wp2_with fail
        go_roundg q
        case measure => omega
        case rel =>
          first
            | exact ⟨j + 1, b ++ blk4 0, by omega, by go_num, rfl, by rw [blk_size]; have := HQ.out.1; omega, wht_one HQ.out.2.1 0, HQ.out.2.2.alloc HQ.out.2.2.size _⟩
            | exact ⟨j + 1, b ++ blk4 1, by omega, by go_num, rfl, by rw [blk_size]; have := HQ.out.1; omega, wht_one HQ.out.2.1 1, HQ.out.2.2.alloc HQ.out.2.2.size _⟩
            | exact ⟨j + 1, b ++ blk4 2, by omega, by go_num, rfl, by rw [blk_size]; have := HQ.out.1; omega, wht_one HQ.out.2.1 2, HQ.out.2.2.alloc HQ.out.2.2.size _⟩
            | exact ⟨j + 1, b ++ blk4 3, by omega, by go_num, rfl, by rw [blk_size]; have := HQ.out.1; omega, wht_one HQ.out.2.1 3, HQ.out.2.2.alloc HQ.out.2.2.size _⟩
    · have hbz : b.size ≤ 20 := by omega
      have hsz : (b ++ s ++ b).size ≤ 100000 := by rw [ByteArray.size_append, ByteArray.size_append]; omega
      have HL : Hid _ := hbel
      have HP : Hid _ := fun W (hW : Lw W) => parse_about k s b W hsz HZ.out.2.2.1 hwh hW
      clear hbel hwh hsz
      go_upto_region 11 with (first | (go_at_call 21; refine Calls.mono (parse_q k s _ (by omega) (hw.below HL.out)) ?_; rintro e w2 ⟨hb2, p1, t1, g1, a1, b1, c1, s1, m1, q1, rfl, hv1⟩; have HB2 : Hid _ := HL.out.trans (hb2.mono HL.out.size); have HV1 : Hid _ := hv1; clear hb2 hv1) | (refine wpList_store_row rfl 40 _ _ rfl _ _ rfl rfl 40 _ (nw_heap _ _) (by kernel_rfl) rfl (by simp [Value.oneCell']) ?_; rw [alloc_setRow]))
      have hxU := nw_heap w2 (.cells #[.int .i64 p1, .string t1, .bool g1, .slice a1 b1 c1, .int .i64 s1, .int .i64 m1.k, .int .i64 m1.y, .int .i64 m1.m, .int .i64 m1.d, .int .i64 m1.s, .int .i64 m1.n, .bool m1.hz, .int .i64 m1.z, .int .i64 q1.o, .int .i64 q1.s, .int .i64 q1.n] 40)
      have hbU : Below w2.heap.size w2 (w2.alloc (.cells #[.int .i64 p1, .string t1, .bool g1, .slice a1 b1 c1, .int .i64 s1, .int .i64 m1.k, .int .i64 m1.y, .int .i64 m1.m, .int .i64 m1.d, .int .i64 m1.s, .int .i64 m1.n, .bool m1.hz, .int .i64 m1.z, .int .i64 q1.o, .int .i64 q1.s, .int .i64 q1.n] 40)) := (Below.refl _ _).alloc (Nat.le_refl _) _
      obtain ⟨U, hUU⟩ : ∃ X, w2.alloc (.cells #[.int .i64 p1, .string t1, .bool g1, .slice a1 b1 c1, .int .i64 s1, .int .i64 m1.k, .int .i64 m1.y, .int .i64 m1.m, .int .i64 m1.d, .int .i64 m1.s, .int .i64 m1.n, .bool m1.hz, .int .i64 m1.z, .int .i64 q1.o, .int .i64 q1.s, .int .i64 q1.n] 40) = X := ⟨_, rfl⟩
      rw [hUU] at hxU hbU ⊢
      have HU : Hid _ := And.intro (HB2.out.trans (hbU.mono HB2.out.size)) (And.intro hxU (fun d hd => (HV1.out d hd).below hbU))
      clear hxU hbU hUU HV1 HB2 HL
      generalize w2.heap.size = X at *
      clear w2
      go_upto_region 12 with (first | (go_at_call 21; refine Calls.mono (HP.out _ (hw.below HU.out.1)) ?_; rintro e w3 ⟨hb3, p2, t2, g2, a2, b2, c2, s2, m2, q2, rfl, hv2⟩; have HB3 : Hid _ := hb3; have HV2 : Hid _ := hv2; clear hb3 hv2) | (refine wpList_store_row rfl 40 _ _ rfl _ _ rfl rfl 40 _ (nw_heap _ _) (by kernel_rfl) rfl (by simp [Value.oneCell']) ?_; rw [alloc_setRow]))
      have hyV := nw_heap w3 (.cells #[.int .i64 p2, .string t2, .bool g2, .slice a2 b2 c2, .int .i64 s2, .int .i64 m2.k, .int .i64 m2.y, .int .i64 m2.m, .int .i64 m2.d, .int .i64 m2.s, .int .i64 m2.n, .bool m2.hz, .int .i64 m2.z, .int .i64 q2.o, .int .i64 q2.s, .int .i64 q2.n] 40)
      have hbV : Below w3.heap.size w3 (w3.alloc (.cells #[.int .i64 p2, .string t2, .bool g2, .slice a2 b2 c2, .int .i64 s2, .int .i64 m2.k, .int .i64 m2.y, .int .i64 m2.m, .int .i64 m2.d, .int .i64 m2.s, .int .i64 m2.n, .bool m2.hz, .int .i64 m2.z, .int .i64 q2.o, .int .i64 q2.s, .int .i64 q2.n] 40)) := (Below.refl _ _).alloc (Nat.le_refl _) _
      obtain ⟨V, hVV⟩ : ∃ X, w3.alloc (.cells #[.int .i64 p2, .string t2, .bool g2, .slice a2 b2 c2, .int .i64 s2, .int .i64 m2.k, .int .i64 m2.y, .int .i64 m2.m, .int .i64 m2.d, .int .i64 m2.s, .int .i64 m2.n, .bool m2.hz, .int .i64 m2.z, .int .i64 q2.o, .int .i64 q2.s, .int .i64 q2.n] 40) = X := ⟨_, rfl⟩
      rw [hVV] at hyV hbV ⊢
      have hUV := HB3.out.trans (hbV.mono HB3.out.size)
      have HV : Hid _ := And.intro (HU.out.1.trans (hUV.mono HU.out.1.size)) (And.intro ((hUV.block _ (Dc.lt_of HU.out.2.1)).trans HU.out.2.1) (And.intro hyV (And.intro (fun d hd => (HU.out.2.2 d hd).below hUV) (fun d hd => (HV2.out d hd).below hbV))))
      clear hyV hbV hVV HV2 HB3 HU hUV
      generalize w3.heap.size = Y at *
      clear w3
      have HE1 : Hid _ := er_o k s
      generalize erS k s = e1 at *
      have HK : Hid (∀ W, Below V.heap.size V W → _ ∧ _) := fun W hW => And.intro ((hW.block _ (Dc.lt_of HV.out.2.1)).trans HV.out.2.1) ((hW.block _ (Dc.lt_of HV.out.2.2.1)).trans HV.out.2.2.1)
      obtain ⟨hx, hy⟩ := HK.out V.drew (Dc.Below.drewN' 1)
      have HB : Hid (Below V.heap.size V V.drew) := Dc.Below.drewN' 1
      by_cases h1 : e1 = 0
      case neg =>
        have h1b : (e1 == 0) = false := by simpa using h1
        have h1c : (e1 != 0) = true := by simpa using h1
        clear h1
        refine wp_region_held_drew (S := fun W => W.heap[X]? = some (.cells [.int .i64 p1, .string t1, .bool g1, .slice a1 b1 c1, .int .i64 s1, .int .i64 m1.k, .int .i64 m1.y, .int .i64 m1.m, .int .i64 m1.d, .int .i64 m1.s, .int .i64 m1.n, .bool m1.hz, .int .i64 m1.z, .int .i64 q1.o, .int .i64 q1.s, .int .i64 q1.n].toArray 40 (0, 0)) ∧ W.heap[Y]? = some (.cells [.int .i64 p2, .string t2, .bool g2, .slice a2 b2 c2, .int .i64 s2, .int .i64 m2.k, .int .i64 m2.y, .int .i64 m2.m, .int .i64 m2.d, .int .i64 m2.s, .int .i64 m2.n, .bool m2.hz, .int .i64 m2.z, .int .i64 q2.o, .int .i64 q2.s, .int .i64 q2.n].toArray 40 (0, 0))) (by kernel_rfl) ⟨hx, hy⟩ (fun hHeld => ?_)
        refine wpAnyH_take (i := 0) (v := (.int .i64 e1)) rfl (by kernel_rfl) (by kernel_rfl) (by kernel_rfl) (fun _ _ _ h => h) (Or.inl ⟨by kernel_rfl, fun w' hSw => (by go_simp)⟩) (by assumption) ?_
        try simp only [Act.put, List.getElem_toArray, List.getElem_cons_zero, List.getElem_cons_succ, List.setIfInBounds_toArray, List.set_cons_zero, List.set_cons_succ]
        refine wpAnyH_take (i := 1) (v := (.int .i64 e1)) rfl (by kernel_rfl) (by kernel_rfl) (by kernel_rfl) (fun _ _ _ h => h) (Or.inl ⟨by kernel_rfl, fun w' hSw => (by go_simp)⟩) (by assumption) ?_
        try simp only [Act.put, List.getElem_toArray, List.getElem_cons_zero, List.getElem_cons_succ, List.setIfInBounds_toArray, List.set_cons_zero, List.set_cons_succ]
        refine wpAnyH_take (i := 2) (v := (.bool true)) rfl (by kernel_rfl) (by kernel_rfl) (by kernel_rfl) (fun _ _ _ h => h) (Or.inl ⟨by kernel_rfl, fun w' hSw => (by go_simp)⟩) (by assumption) ?_
        try simp only [Act.put, List.getElem_toArray, List.getElem_cons_zero, List.getElem_cons_succ, List.setIfInBounds_toArray, List.set_cons_zero, List.set_cons_succ]
        refine wpAnyH_take (i := 3) (v := (.bool true)) rfl (by kernel_rfl) (by kernel_rfl) (by kernel_rfl) (fun _ _ _ h => h) (Or.inl ⟨by kernel_rfl, fun w' hSw => (by go_simp)⟩) (by assumption) ?_
        try simp only [Act.put, List.getElem_toArray, List.getElem_cons_zero, List.getElem_cons_succ, List.setIfInBounds_toArray, List.set_cons_zero, List.set_cons_succ]
        refine wpAnyH_take (i := 4) (v := (.int .i64 e1)) rfl (by kernel_rfl) (by kernel_rfl) (by kernel_rfl) (fun _ _ _ h => h) (Or.inl ⟨by kernel_rfl, fun w' hSw => (by go_simp)⟩) (by assumption) ?_
        try simp only [Act.put, List.getElem_toArray, List.getElem_cons_zero, List.getElem_cons_succ, List.setIfInBounds_toArray, List.set_cons_zero, List.set_cons_succ]
        refine wpAnyH_take (i := 5) (v := (.bool true)) rfl (by kernel_rfl) (by kernel_rfl) (by kernel_rfl) (fun _ _ _ h => h) (Or.inl ⟨by kernel_rfl, fun w' hSw => (by go_simp)⟩) (by assumption) ?_
        try simp only [Act.put, List.getElem_toArray, List.getElem_cons_zero, List.getElem_cons_succ, List.setIfInBounds_toArray, List.set_cons_zero, List.set_cons_succ]
        refine wpAnyH_take (i := 6) (v := (.bool true)) rfl (by kernel_rfl) (by kernel_rfl) (by kernel_rfl) (fun _ _ _ h => h) (Or.inl ⟨by kernel_rfl, fun w' hSw => (by go_simp)⟩) (by assumption) ?_
        try simp only [Act.put, List.getElem_toArray, List.getElem_cons_zero, List.getElem_cons_succ, List.setIfInBounds_toArray, List.set_cons_zero, List.set_cons_succ]
        refine wpAnyH_take (i := 7) (v := (undef)) rfl (by kernel_rfl) (by kernel_rfl) (by kernel_rfl) (fun _ _ _ h => h) (Or.inr ⟨by kernel_rfl, rfl⟩) (by assumption) ?_
        try simp only [Act.put, List.getElem_toArray, List.getElem_cons_zero, List.getElem_cons_succ, List.setIfInBounds_toArray, List.set_cons_zero, List.set_cons_succ]
        refine wpAnyH_take (i := 8) (v := (undef)) rfl (by kernel_rfl) (by kernel_rfl) (by kernel_rfl) (fun _ _ _ h => h) (Or.inr ⟨by kernel_rfl, rfl⟩) (by assumption) ?_
        try simp only [Act.put, List.getElem_toArray, List.getElem_cons_zero, List.getElem_cons_succ, List.setIfInBounds_toArray, List.set_cons_zero, List.set_cons_succ]
        refine wpAnyH_take (i := 9) (v := (undef)) rfl (by kernel_rfl) (by kernel_rfl) (by kernel_rfl) (fun _ _ _ h => h) (Or.inr ⟨by kernel_rfl, rfl⟩) (by assumption) ?_
        try simp only [Act.put, List.getElem_toArray, List.getElem_cons_zero, List.getElem_cons_succ, List.setIfInBounds_toArray, List.set_cons_zero, List.set_cons_succ]
        refine wpAnyH_take (i := 10) (v := (undef)) rfl (by kernel_rfl) (by kernel_rfl) (by kernel_rfl) (fun _ _ _ h => h) (Or.inr ⟨by kernel_rfl, rfl⟩) (by assumption) ?_
        try simp only [Act.put, List.getElem_toArray, List.getElem_cons_zero, List.getElem_cons_succ, List.setIfInBounds_toArray, List.set_cons_zero, List.set_cons_succ]
        refine wpAnyH_take (i := 11) (v := (undef)) rfl (by kernel_rfl) (by kernel_rfl) (by kernel_rfl) (fun _ _ _ h => h) (Or.inr ⟨by kernel_rfl, rfl⟩) (by assumption) ?_
        try simp only [Act.put, List.getElem_toArray, List.getElem_cons_zero, List.getElem_cons_succ, List.setIfInBounds_toArray, List.set_cons_zero, List.set_cons_succ]
        refine wpAnyH_take (i := 12) (v := (undef)) rfl (by kernel_rfl) (by kernel_rfl) (by kernel_rfl) (fun _ _ _ h => h) (Or.inr ⟨by kernel_rfl, rfl⟩) (by assumption) ?_
        try simp only [Act.put, List.getElem_toArray, List.getElem_cons_zero, List.getElem_cons_succ, List.setIfInBounds_toArray, List.set_cons_zero, List.set_cons_succ]
        refine wpAnyH_take (i := 13) (v := (undef)) rfl (by kernel_rfl) (by kernel_rfl) (by kernel_rfl) (fun _ _ _ h => h) (Or.inr ⟨by kernel_rfl, rfl⟩) (by assumption) ?_
        try simp only [Act.put, List.getElem_toArray, List.getElem_cons_zero, List.getElem_cons_succ, List.setIfInBounds_toArray, List.set_cons_zero, List.set_cons_succ]
        refine wpAnyH_take (i := 14) (v := (undef)) rfl (by kernel_rfl) (by kernel_rfl) (by kernel_rfl) (fun _ _ _ h => h) (Or.inr ⟨by kernel_rfl, rfl⟩) (by assumption) ?_
        try simp only [Act.put, List.getElem_toArray, List.getElem_cons_zero, List.getElem_cons_succ, List.setIfInBounds_toArray, List.set_cons_zero, List.set_cons_succ]
        refine wpAnyH_take (i := 15) (v := (undef)) rfl (by kernel_rfl) (by kernel_rfl) (by kernel_rfl) (fun _ _ _ h => h) (Or.inr ⟨by kernel_rfl, rfl⟩) (by assumption) ?_
        try simp only [Act.put, List.getElem_toArray, List.getElem_cons_zero, List.getElem_cons_succ, List.setIfInBounds_toArray, List.set_cons_zero, List.set_cons_succ]
        refine wpAnyH_take (i := 16) (v := (undef)) rfl (by kernel_rfl) (by kernel_rfl) (by kernel_rfl) (fun _ _ _ h => h) (Or.inr ⟨by kernel_rfl, rfl⟩) (by assumption) ?_
        try simp only [Act.put, List.getElem_toArray, List.getElem_cons_zero, List.getElem_cons_succ, List.setIfInBounds_toArray, List.set_cons_zero, List.set_cons_succ]
        refine wpAnyH_take (i := 17) (v := (.bool true)) rfl (by kernel_rfl) (by kernel_rfl) (by kernel_rfl) (fun _ _ _ h => h) (Or.inl ⟨by kernel_rfl, fun w' hSw => (by go_simp)⟩) (by assumption) ?_
        try simp only [Act.put, List.getElem_toArray, List.getElem_cons_zero, List.getElem_cons_succ, List.setIfInBounds_toArray, List.set_cons_zero, List.set_cons_succ]
        refine wpAnyH_take (i := 18) (v := (.bool true)) rfl (by kernel_rfl) (by kernel_rfl) (by kernel_rfl) (fun _ _ _ h => h) (Or.inl ⟨by kernel_rfl, fun w' hSw => (by go_simp)⟩) (by assumption) ?_
        try simp only [Act.put, List.getElem_toArray, List.getElem_cons_zero, List.getElem_cons_succ, List.setIfInBounds_toArray, List.set_cons_zero, List.set_cons_succ]
        refine wpAnyH_take (i := 19) (v := (.bool true)) rfl (by kernel_rfl) (by kernel_rfl) (by kernel_rfl) (fun _ _ _ h => h) (Or.inl ⟨by kernel_rfl, fun w' hSw => (by go_simp)⟩) (by assumption) ?_
        try simp only [Act.put, List.getElem_toArray, List.getElem_cons_zero, List.getElem_cons_succ, List.setIfInBounds_toArray, List.set_cons_zero, List.set_cons_succ]
        refine wpAnyH_done (by kernel_rfl) ?_ _
        clear hHeld
        go_wp2_with fail
        go_ret
        exact ⟨rfl, HV.out.1.trans (HB.out.mono HV.out.1.size)⟩
      case pos =>
        subst h1
        obtain ⟨d, ho, hk, hp⟩ : ∃ d, oS k s = some d ∧ isK k = true ∧ psS k s = some d := by rcases HE1.out with q | q; exact q.2; omega
        have ok := ps_ok hk hp
        have v1 := HV.out.2.2.2.1 d ho
        have v2 := HV.out.2.2.2.2 d ho
        have HS : Hid _ := fun W (hW : Below V.heap.size V W) => same_self (v1.below hW) (v2.below hW) ok
        have HT1 : Hid _ := fun W (hW : Below V.heap.size V W) => text_a ((hw.below HV.out.1).below hW) (v1.below hW) ok
        have HT2 : Hid _ := fun W (hW : Below V.heap.size V W) => text_a ((hw.below HV.out.1).below hW) (v2.below hW) ok
        generalize txK d = y at *
        clear v1 v2 ok hp ho
        refine wp_region_held_drew (S := fun W => W.heap[X]? = some (.cells [.int .i64 p1, .string t1, .bool g1, .slice a1 b1 c1, .int .i64 s1, .int .i64 m1.k, .int .i64 m1.y, .int .i64 m1.m, .int .i64 m1.d, .int .i64 m1.s, .int .i64 m1.n, .bool m1.hz, .int .i64 m1.z, .int .i64 q1.o, .int .i64 q1.s, .int .i64 q1.n].toArray 40 (0, 0)) ∧ W.heap[Y]? = some (.cells [.int .i64 p2, .string t2, .bool g2, .slice a2 b2 c2, .int .i64 s2, .int .i64 m2.k, .int .i64 m2.y, .int .i64 m2.m, .int .i64 m2.d, .int .i64 m2.s, .int .i64 m2.n, .bool m2.hz, .int .i64 m2.z, .int .i64 q2.o, .int .i64 q2.s, .int .i64 q2.n].toArray 40 (0, 0))) (by kernel_rfl) ⟨hx, hy⟩ (fun hHeld => ?_)
        refine wpAnyH_take (i := 0) (v := (.int .i64 0)) rfl (by kernel_rfl) (by kernel_rfl) (by kernel_rfl) (fun _ _ _ h => h) (Or.inl ⟨by kernel_rfl, fun w' hSw => (by go_simp)⟩) (by assumption) ?_
        try simp only [Act.put, List.getElem_toArray, List.getElem_cons_zero, List.getElem_cons_succ, List.setIfInBounds_toArray, List.set_cons_zero, List.set_cons_succ]
        refine wpAnyH_take (i := 1) (v := (.int .i64 0)) rfl (by kernel_rfl) (by kernel_rfl) (by kernel_rfl) (fun _ _ _ h => h) (Or.inl ⟨by kernel_rfl, fun w' hSw => (by go_simp)⟩) (by assumption) ?_
        try simp only [Act.put, List.getElem_toArray, List.getElem_cons_zero, List.getElem_cons_succ, List.setIfInBounds_toArray, List.set_cons_zero, List.set_cons_succ]
        refine wpAnyH_take (i := 2) (v := (.bool true)) rfl (by kernel_rfl) (by kernel_rfl) (by kernel_rfl) (fun _ _ _ h => h) (Or.inl ⟨by kernel_rfl, fun w' hSw => (by go_simp)⟩) (by assumption) ?_
        try simp only [Act.put, List.getElem_toArray, List.getElem_cons_zero, List.getElem_cons_succ, List.setIfInBounds_toArray, List.set_cons_zero, List.set_cons_succ]
        refine wpAnyH_take (i := 3) (v := (.bool true)) rfl (by kernel_rfl) (by kernel_rfl) (by kernel_rfl) (fun _ _ _ h => h) (Or.inl ⟨by kernel_rfl, fun w' hSw => (by go_simp)⟩) (by assumption) ?_
        try simp only [Act.put, List.getElem_toArray, List.getElem_cons_zero, List.getElem_cons_succ, List.setIfInBounds_toArray, List.set_cons_zero, List.set_cons_succ]
        refine wpAnyH_take (i := 4) (v := (.int .i64 0)) rfl (by kernel_rfl) (by kernel_rfl) (by kernel_rfl) (fun _ _ _ h => h) (Or.inl ⟨by kernel_rfl, fun w' hSw => (by go_simp)⟩) (by assumption) ?_
        try simp only [Act.put, List.getElem_toArray, List.getElem_cons_zero, List.getElem_cons_succ, List.setIfInBounds_toArray, List.set_cons_zero, List.set_cons_succ]
        refine wpAnyH_take (i := 5) (v := (.bool false)) rfl (by kernel_rfl) (by kernel_rfl) (by kernel_rfl) (fun _ _ _ h => h) (Or.inl ⟨by kernel_rfl, fun w' hSw => (by go_simp)⟩) (by assumption) ?_
        try simp only [Act.put, List.getElem_toArray, List.getElem_cons_zero, List.getElem_cons_succ, List.setIfInBounds_toArray, List.set_cons_zero, List.set_cons_succ]
        refine wpAnyH_take (i := 6) (v := (.bool false)) rfl (by kernel_rfl) (by kernel_rfl) (by kernel_rfl) (fun _ _ _ h => h) (Or.inl ⟨by kernel_rfl, fun w' hSw => (by go_simp)⟩) (by assumption) ?_
        try simp only [Act.put, List.getElem_toArray, List.getElem_cons_zero, List.getElem_cons_succ, List.setIfInBounds_toArray, List.set_cons_zero, List.set_cons_succ]
        refine wpAnyH_take (i := 7) (v := (.agg #[.int .i64 p1, .string t1, .bool g1, .slice a1 b1 c1, .int .i64 s1, .int .i64 m1.k, .int .i64 m1.y, .int .i64 m1.m, .int .i64 m1.d, .int .i64 m1.s, .int .i64 m1.n, .bool m1.hz, .int .i64 m1.z, .int .i64 q1.o, .int .i64 q1.s, .int .i64 q1.n])) rfl (by kernel_rfl) (by kernel_rfl) (by kernel_rfl) (fun _ _ _ h => h) (yieldsIf_load_mid (by kernel_rfl) 40 _ rfl X 0 rfl [.int .i64 p1, .string t1, .bool g1, .slice a1 b1 c1, .int .i64 s1, .int .i64 m1.k, .int .i64 m1.y, .int .i64 m1.m, .int .i64 m1.d, .int .i64 m1.s, .int .i64 m1.n, .bool m1.hz, .int .i64 m1.z, .int .i64 q1.o, .int .i64 q1.s, .int .i64 q1.n] _ (fun W hW => rng0 hW.1) Tryz.underlying40 rfl (by kernel_rfl)) (by assumption) ?_
        try simp only [Act.put, List.getElem_toArray, List.getElem_cons_zero, List.getElem_cons_succ, List.setIfInBounds_toArray, List.set_cons_zero, List.set_cons_succ]
        refine wpAnyH_take (i := 8) (v := (.agg #[.int .i64 p2, .string t2, .bool g2, .slice a2 b2 c2, .int .i64 s2, .int .i64 m2.k, .int .i64 m2.y, .int .i64 m2.m, .int .i64 m2.d, .int .i64 m2.s, .int .i64 m2.n, .bool m2.hz, .int .i64 m2.z, .int .i64 q2.o, .int .i64 q2.s, .int .i64 q2.n])) rfl (by kernel_rfl) (by kernel_rfl) (by kernel_rfl) (fun _ _ _ h => h) (yieldsIf_load_mid (by kernel_rfl) 40 _ rfl Y 0 rfl [.int .i64 p2, .string t2, .bool g2, .slice a2 b2 c2, .int .i64 s2, .int .i64 m2.k, .int .i64 m2.y, .int .i64 m2.m, .int .i64 m2.d, .int .i64 m2.s, .int .i64 m2.n, .bool m2.hz, .int .i64 m2.z, .int .i64 q2.o, .int .i64 q2.s, .int .i64 q2.n] _ (fun W hW => rng0 hW.2) Tryz.underlying40 rfl (by kernel_rfl)) (by assumption) ?_
        try simp only [Act.put, List.getElem_toArray, List.getElem_cons_zero, List.getElem_cons_succ, List.setIfInBounds_toArray, List.set_cons_zero, List.set_cons_succ]
        refine wpAnyH_ready (rs := [9]) (by kernel_rfl) (by simp) ?_
        refine AllReadyH.cons rfl (fun K hK => ?_) AllReadyH.nil
        go_simp
        refine Calls.mono (HS.out _ HB.out) ?_
        rintro e w9 ⟨rfl, hb9⟩
        have hbb := HB.out.trans (hb9.mono HB.out.size)
        have hS9 := HK.out _ hbb
        clear HB hHeld
        have HB : Hid _ := hbb
        clear hbb hb9
        go_wp2_with fail
        refine hK.out _ _ hS9 (fun hHeld => ?_)
        clear hK K hS9
        try simp only [Act.put, List.getElem_toArray, List.getElem_cons_zero, List.getElem_cons_succ, List.setIfInBounds_toArray, List.set_cons_zero, List.set_cons_succ]
        refine wpAnyH_take (i := 10) (v := (.bool true)) rfl (by kernel_rfl) (by kernel_rfl) (by kernel_rfl) (fun _ _ _ h => h) (Or.inl ⟨by kernel_rfl, fun w' hSw => (by go_simp)⟩) (by assumption) ?_
        try simp only [Act.put, List.getElem_toArray, List.getElem_cons_zero, List.getElem_cons_succ, List.setIfInBounds_toArray, List.set_cons_zero, List.set_cons_succ]
        refine wpAnyH_take (i := 11) (v := (.agg #[.int .i64 p1, .string t1, .bool g1, .slice a1 b1 c1, .int .i64 s1, .int .i64 m1.k, .int .i64 m1.y, .int .i64 m1.m, .int .i64 m1.d, .int .i64 m1.s, .int .i64 m1.n, .bool m1.hz, .int .i64 m1.z, .int .i64 q1.o, .int .i64 q1.s, .int .i64 q1.n])) rfl (by kernel_rfl) (by kernel_rfl) (by kernel_rfl) (fun _ _ _ h => h) (yieldsIf_load_mid (by kernel_rfl) 40 _ rfl X 0 rfl [.int .i64 p1, .string t1, .bool g1, .slice a1 b1 c1, .int .i64 s1, .int .i64 m1.k, .int .i64 m1.y, .int .i64 m1.m, .int .i64 m1.d, .int .i64 m1.s, .int .i64 m1.n, .bool m1.hz, .int .i64 m1.z, .int .i64 q1.o, .int .i64 q1.s, .int .i64 q1.n] _ (fun W hW => rng0 hW.1) Tryz.underlying40 rfl (by kernel_rfl)) (by assumption) ?_
        try simp only [Act.put, List.getElem_toArray, List.getElem_cons_zero, List.getElem_cons_succ, List.setIfInBounds_toArray, List.set_cons_zero, List.set_cons_succ]
        refine wpAnyH_take (i := 13) (v := (.agg #[.int .i64 p2, .string t2, .bool g2, .slice a2 b2 c2, .int .i64 s2, .int .i64 m2.k, .int .i64 m2.y, .int .i64 m2.m, .int .i64 m2.d, .int .i64 m2.s, .int .i64 m2.n, .bool m2.hz, .int .i64 m2.z, .int .i64 q2.o, .int .i64 q2.s, .int .i64 q2.n])) rfl (by kernel_rfl) (by kernel_rfl) (by kernel_rfl) (fun _ _ _ h => h) (yieldsIf_load_mid (by kernel_rfl) 40 _ rfl Y 0 rfl [.int .i64 p2, .string t2, .bool g2, .slice a2 b2 c2, .int .i64 s2, .int .i64 m2.k, .int .i64 m2.y, .int .i64 m2.m, .int .i64 m2.d, .int .i64 m2.s, .int .i64 m2.n, .bool m2.hz, .int .i64 m2.z, .int .i64 q2.o, .int .i64 q2.s, .int .i64 q2.n] _ (fun W hW => rng0 hW.2) Tryz.underlying40 rfl (by kernel_rfl)) (by assumption) ?_
        try simp only [Act.put, List.getElem_toArray, List.getElem_cons_zero, List.getElem_cons_succ, List.setIfInBounds_toArray, List.set_cons_zero, List.set_cons_succ]
        refine wpAnyH_ready (rs := [12]) (by kernel_rfl) (by simp) ?_
        refine AllReadyH.cons rfl (fun K hK => ?_) AllReadyH.nil
        go_simp
        refine Calls.mono (HT1.out _ HB.out) ?_
        rintro e w9 ⟨rfl, hb9⟩
        have hbb := HB.out.trans (hb9.mono HB.out.size)
        have hS9 := HK.out _ hbb
        clear HB hHeld
        have HB : Hid _ := hbb
        clear hbb hb9
        go_wp2_with fail
        refine hK.out _ _ hS9 (fun hHeld => ?_)
        clear hK K hS9
        try simp only [Act.put, List.getElem_toArray, List.getElem_cons_zero, List.getElem_cons_succ, List.setIfInBounds_toArray, List.set_cons_zero, List.set_cons_succ]
        refine wpAnyH_ready (rs := [14]) (by kernel_rfl) (by simp) ?_
        refine AllReadyH.cons rfl (fun K hK => ?_) AllReadyH.nil
        go_simp
        refine Calls.mono (HT2.out _ HB.out) ?_
        rintro e w9 ⟨rfl, hb9⟩
        have hbb := HB.out.trans (hb9.mono HB.out.size)
        have hS9 := HK.out _ hbb
        clear HB hHeld
        have HB : Hid _ := hbb
        clear hbb hb9
        go_wp2_with fail
        refine hK.out _ _ hS9 (fun hHeld => ?_)
        clear hK K hS9
        try simp only [Act.put, List.getElem_toArray, List.getElem_cons_zero, List.getElem_cons_succ, List.setIfInBounds_toArray, List.set_cons_zero, List.set_cons_succ]
        refine wpAnyH_take (i := 15) (v := (.bool true)) rfl (by kernel_rfl) (by kernel_rfl) (by kernel_rfl) (fun _ _ _ h => h) (Or.inl ⟨by kernel_rfl, fun w' hSw => (by go_simp)⟩) (by assumption) ?_
        try simp only [Act.put, List.getElem_toArray, List.getElem_cons_zero, List.getElem_cons_succ, List.setIfInBounds_toArray, List.set_cons_zero, List.set_cons_succ]
        refine wpAnyH_take (i := 16) (v := (.bool true)) rfl (by kernel_rfl) (by kernel_rfl) (by kernel_rfl) (fun _ _ _ h => h) (Or.inl ⟨by kernel_rfl, fun w' hSw => (by go_simp)⟩) (by assumption) ?_
        try simp only [Act.put, List.getElem_toArray, List.getElem_cons_zero, List.getElem_cons_succ, List.setIfInBounds_toArray, List.set_cons_zero, List.set_cons_succ]
        refine wpAnyH_take (i := 17) (v := (.bool true)) rfl (by kernel_rfl) (by kernel_rfl) (by kernel_rfl) (fun _ _ _ h => h) (Or.inl ⟨by kernel_rfl, fun w' hSw => (by go_simp)⟩) (by assumption) ?_
        try simp only [Act.put, List.getElem_toArray, List.getElem_cons_zero, List.getElem_cons_succ, List.setIfInBounds_toArray, List.set_cons_zero, List.set_cons_succ]
        refine wpAnyH_take (i := 18) (v := (.bool true)) rfl (by kernel_rfl) (by kernel_rfl) (by kernel_rfl) (fun _ _ _ h => h) (Or.inl ⟨by kernel_rfl, fun w' hSw => (by go_simp)⟩) (by assumption) ?_
        try simp only [Act.put, List.getElem_toArray, List.getElem_cons_zero, List.getElem_cons_succ, List.setIfInBounds_toArray, List.set_cons_zero, List.set_cons_succ]
        refine wpAnyH_take (i := 19) (v := (.bool true)) rfl (by kernel_rfl) (by kernel_rfl) (by kernel_rfl) (fun _ _ _ h => h) (Or.inl ⟨by kernel_rfl, fun w' hSw => (by go_simp)⟩) (by assumption) ?_
        try simp only [Act.put, List.getElem_toArray, List.getElem_cons_zero, List.getElem_cons_succ, List.setIfInBounds_toArray, List.set_cons_zero, List.set_cons_succ]
        refine wpAnyH_done (by kernel_rfl) ?_ _
        clear hHeld
        go_wp2_with fail
        go_ret
        exact ⟨rfl, HV.out.1.trans (HB.out.mono HV.out.1.size)⟩
end Go.Proofs.YtgaegajcejpmdaaGreatDoor
namespace Go.Proofs.YtgaegajcejpmdaaGreatDoor
open Go.RowKit
set_option linter.unusedVariables false
set_option linter.unusedSimpArgs false

theorem dd_head : ∀ (f u : Nat), u < 10 ^ (f + 1) → 1 ≤ u → (Dc.ddS u).head? ≠ some 48
  | 0, u, h, h1 => by
    have h' : u < 10 := by simpa using h
    rw [Dc.dd_small h']
    simp
    omega
  | f + 1, u, h, h1 => by
    by_cases h' : u < 10
    · rw [Dc.dd_small h']
      simp
      omega
    · have hd : u / 10 < 10 ^ (f + 1) := by
        have : 10 ^ (f + 1 + 1) = 10 ^ (f + 1) * 10 := Nat.pow_succ ..
        omega
      have ih := dd_head f (u / 10) hd (by omega)
      have hn := (Dc.dd_ok f (u / 10) hd).2.1
      rw [Dc.dd_big h']
      cases hq : Dc.ddS (u / 10) with
      | nil => exact absurd hq hn
      | cons a l =>
        rw [hq] at ih
        exact ih
theorem map_up (l : List Int) : (l.map (· - 48)).map (· + 48) = l := by
  induction l with
  | nil => rfl
  | cons a l ih =>
    simp only [List.map_cons, ih]
    congr 1
    omega
theorem in_dd (n : Int) (h0 : -9223372036854775808 ≤ n) (h1 : n ≤ 9223372036854775807) : Dc.inS n = (decide (n < 0), (Dc.ddS n.natAbs).map (· - 48), 0) := by
  have hb : n.natAbs < 10 ^ 20 := by
    have : (10 : Nat) ^ 20 = 100000000000000000000 := by decide
    omega
  have hb' : n.natAbs < 10 ^ (19 + 1) := hb
  obtain ⟨i1, i2, i3, i4⟩ := Dc.dd_ok 19 n.natAbs hb'
  have hin := Dc.in_ok n hb
  have hl : 1 ≤ ((Dc.ddS n.natAbs).map (· - 48)).length := by
    rw [List.length_map]
    exact List.length_pos_iff.2 i2
  have hcn : Dc.CN (decide (n < 0), (Dc.ddS n.natAbs).map (· - 48), 0) := by
    refine ⟨⟨Dc.dgs_dg i1, hl, ?_, .inl rfl⟩, fun h => ?_⟩
    · by_cases hu : n.natAbs = 0
      · left
        rw [hu, Dc.dd_small (by omega)]
        rfl
      · right
        have := dd_head 19 n.natAbs hb' (by omega)
        show ((Dc.ddS n.natAbs).map (· - 48)).head? ≠ some 0
        rw [List.head?_map]
        intro q
        cases hh : (Dc.ddS n.natAbs).head? with
        | none => rw [hh] at q; cases q
        | some c =>
          rw [hh] at q this
          simp at q
          exact this (by congr 1; omega)
    · show Dc.dval ((Dc.ddS n.natAbs).map (· - 48)) ≠ 0
      rw [i3]
      have : n < 0 := by simpa using h
      omega
  refine Dc.nm_uniq (S := 0) hin.1 hcn (by rw [hin.2.1]; exact Nat.le_refl _) (Nat.le_refl _) ?_
  rw [hin.2.2]
  unfold Dc.nv
  show n = if decide (n < 0) = true then -(Dc.dval ((Dc.ddS n.natAbs).map (· - 48)) * Dc.p10 (0 - 0)) else Dc.dval ((Dc.ddS n.natAbs).map (· - 48)) * Dc.p10 (0 - 0)
  rw [i3]
  have e1 : Dc.p10 (0 - 0) = 1 := by decide
  rw [e1, Int.mul_one]
  split
  · rename_i h; have : n < 0 := by simpa using h
    omega
  · rename_i h; have : ¬ n < 0 := by simpa using h
    omega
theorem tx_itoa (n : Int) (h : I64 n) : Dc.sb (Dc.txS (Dc.inS n)) = itT n := by
  have e : Dc.txS (Dc.inS n) = Dc.bl (itT n) := by
    rw [in_dd n h.1 h.2]
    unfold itT
    rw [Dc.bl_itoa, tx_whole rfl]
    show (if decide (n < 0) = true then [45] else []) ++ ((Dc.ddS n.natAbs).map (· - 48)).map (· + 48) = _
    rw [map_up]
    unfold Lib.itoa Dc.ddS
    by_cases hn : n < 0
    · rw [if_pos hn, if_pos (by simpa using hn)]
      rfl
    · rw [if_neg hn, if_neg (by simpa using hn)]
      have : n.toNat = n.natAbs := by omega
      rw [this]
      rfl
  rw [e, Dc.sb_bl]
end Go.Proofs.YtgaegajcejpmdaaGreatDoor
namespace Go.Proofs.YtgaegajcejpmdaaGreatDoor
open Go.RowKit
set_option linter.unusedVariables false
set_option linter.unusedSimpArgs false

/-- Numbers, a blank ahead of each. -/
def flT (l : List Int) : ByteArray := ⟨(l.flatMap fun n => 32 :: Lib.itoa n).toArray⟩
theorem ba_app (a b : List UInt8) : (⟨a.toArray⟩ : ByteArray) ++ ⟨b.toArray⟩ = ⟨(a ++ b).toArray⟩ := by
  apply ByteArray.ext
  simp
theorem ba_eta (a : ByteArray) : a = ⟨a.data.toList.toArray⟩ := by
  apply ByteArray.ext
  simp
theorem flT_app (a b : List Int) : flT (a ++ b) = flT a ++ flT b := by
  unfold flT
  rw [ba_app, List.flatMap_append]
theorem flT_one (n : Int) : flT [n] = (⟨#[32]⟩ : ByteArray) ++ itT n := by
  unfold flT itT
  have := ba_app [32] (Lib.itoa n)
  rw [show (⟨#[32]⟩ : ByteArray) = ⟨[32].toArray⟩ from rfl, this]
  simp
theorem row_fl (k : Int) (l : List Int) : rowT k l = nmS k ++ flT l := by
  unfold rowT rowL flT
  rw [List.map_cons, Lib.join_cons]
  conv => rhs; rw [ba_eta (nmS k)]
  rw [ba_app]
  congr 3
  unfold Lib.joinTail
  rw [List.map_map, List.map_map, List.flatMap_def]
  rfl
theorem fl_size (l : List Int) (hI : ∀ n ∈ l, I64 n) : (flT l).size ≤ l.length * 4097 := by
  induction l with
  | nil => exact Nat.zero_le _
  | cons n l ih =>
    have h1 := ih (fun x hx => hI x (by simp [hx]))
    have h2 := it_size (hI n (by simp))
    have e : flT (n :: l) = flT [n] ++ flT l := flT_app [n] l
    rw [e, flT_one, ByteArray.size_append, ByteArray.size_append, List.length_cons, Nat.add_mul]
    have : (⟨#[32]⟩ : ByteArray).size = 1 := rfl
    omega
set_option maxRecDepth 8000 in
set_option maxHeartbeats 1000000 in
theorem fields_r (l : List Int) (b c : Nat) (w : World) (hl : l.length ≤ 10) (hI : ∀ n ∈ l, I64 n) (hb : b < w.heap.size) (hcell : ∀ (j : Nat) (hj : j < l.length), w.cell? ⟨b, j, none⟩ = some (.int .i64 l[j])) :
    Calls Tryz.prog 48 #[.slice (some ⟨b, 0, none⟩) l.length c] w fun e w' => e = .returned (.string (flT l)) ∧ Below w.heap.size w w' := by
  have HX : Hid _ := And.intro hcell (And.intro hI hl)
  clear hcell hI hl
  go_enter Tryz.func48, Tryz.ntmps48
  go_wp2_with fail
  go_loopg [3, 4] l.length (fun g v3 v4 wr => ∃ j : Nat, j + g = l.length ∧ v4 = .int .i64 (j : Int) ∧ v3 = .string (flT (l.take j)) ∧ Below w.heap.size w wr)
  case atStart => exact ⟨0, by omega, rfl, rfl, Below.refl _ _⟩
  case round =>
    obtain ⟨j, hjg, rfl, rfl, hbel⟩ := hrel
    by_cases hlt : j < l.length
    · obtain ⟨q, rfl⟩ : ∃ q, gk = q + 1 := ⟨gk - 1, by omega⟩
      have hc := (hbel.cell (p := ⟨b, j, none⟩) hb).trans (HX.out.1 j hlt)
      have hn := HX.out.2.1 l[j] (List.getElem_mem hlt)
      have hit := Dc.int_r l[j] wr hn.1 hn.2
      have hsz := fl_size (l.take j) (fun n hn => HX.out.2.1 n (List.mem_of_mem_take hn))
      have hs2 : (flT (l.take j)).size ≤ 50000 := by
        have := HX.out.2.2
        rw [List.length_take] at hsz
        have : min j l.length ≤ 10 := by omega
        have := Nat.mul_le_mul_right 4097 this
        omega
      have hs3 := it_size hn
      have et : flT (l.take (j + 1)) = flT (l.take j) ++ (⟨#[32]⟩ : ByteArray) ++ itT l[j] := by
        rw [M.take_snoc hlt, flT_app, flT_one]
        apply ByteArray.ext
        simp
      have htx := tx_itoa l[j] hn
      have hin := Dc.in_len l[j] hn.1 hn.2
      have HO : Hid _ := And.intro hbel (And.intro hit (And.intro et (And.intro htx hin)))
      clear hbel hn hit et htx hsz hin
      generalize l[j] = n at *
      generalize flT (l.take j) = s0 at *
      have hj10 : j < 10 := by have := HX.out.2.2; omega
      have e1 : (j : Int) < (l.length : Int) := by omega
      have e2 : (0 : Int) ≤ (j : Int) := by omega
      go_wp2_with (first | (go_at_call 87; refine Calls.mono HO.out.2.1 ?_; intro e w5 hq; obtain ⟨rv, rfl, hbt, _, hb5⟩ := hq; have H5 : Hid (Below wr.heap.size wr w5) := hb5; have HN5 : Hid (Dc.NmR w5 rv (Dc.inS n)) := ⟨hbt, HO.out.2.2.2.2.2, HO.out.2.2.2.2.1⟩; clear hbt hb5) | (go_at_call 47; refine Calls.mono (Dc.text_r HN5.out) ?_; rintro e w6 ⟨rfl, hb6⟩; have H6 : Hid _ := hb6; clear hb6; rw [HO.out.2.2.2.1]))
      go_roundg q
      case measure => omega
      case rel =>
        have hb5 := HO.out.1.trans (H5.out.mono HO.out.1.size)
        exact ⟨j + 1, by omega, by go_num, by rw [HO.out.2.2.1], hb5.trans (H6.out.mono hb5.size)⟩
    · have hj : j = l.length := by omega
      subst hj
      have HB : Hid _ := hbel
      clear hbel
      rw [List.take_length]
      go_wp2_with fail
      go_ret
      exact ⟨rfl, HB.out⟩
end Go.Proofs.YtgaegajcejpmdaaGreatDoor
namespace Go.Proofs.YtgaegajcejpmdaaGreatDoor
open Go.RowKit
set_option linter.unusedVariables false
set_option linter.unusedSimpArgs false

def hasP (l : List Int) : Bool := decide (0 ≤ Dc.ix l)
theorem hasP_cons (c : Int) (l : List Int) : hasP (c :: l) = if c = 46 then true else hasP l := by
  unfold hasP
  rw [Dc.ix]
  have := Dc.ix_bd l
  by_cases h : c = 46
  · rw [if_pos h, if_pos h]; rfl
  · rw [if_neg h, if_neg h]
    split
    · rename_i h2; rw [h2]
    · rw [Bool.eq_iff_iff]
      simp
      omega
theorem hasP_nil : hasP [] = false := by decide
theorem hasP_ix {l : List Int} : hasP l = false ↔ Dc.ix l = -1 := by
  unfold hasP
  have := Dc.ix_bd l
  simp
  omega
theorem bl_drop (s : ByteArray) (j : Nat) (h : j < s.size) : (Dc.bl s).drop j = ((s[j]'h).toNat : Int) :: (Dc.bl s).drop (j + 1) := by
  rw [List.drop_eq_getElem_cons (by rw [Dc.bl_len]; exact h)]
  congr 1
  simp [Dc.bl]
  rfl
set_option maxRecDepth 8000 in
set_option maxHeartbeats 1000000 in
theorem point_r (s : ByteArray) (w : World) (hs : s.size ≤ 100000) : Calls Tryz.prog 42 #[.string s] w fun e w' => e = .returned (.bool (hasP (Dc.bl s))) ∧ w' = w := by
  go_enter Tryz.func42, Tryz.ntmps42
  go_wp2_with fail
  go_loopg [3] s.size (fun q v3 wr => ∃ j : Nat, j + q = s.size ∧ v3 = .int .i64 (j : Int) ∧ hasP (Dc.bl s) = hasP ((Dc.bl s).drop j) ∧ wr = w)
  case atStart => exact ⟨0, by omega, rfl, rfl, rfl⟩
  case round =>
    obtain ⟨j, hjq, rfl, hp, rfl⟩ := hrel
    by_cases hlt : j < s.size
    · obtain ⟨q, rfl⟩ : ∃ q, gk = q + 1 := ⟨gk - 1, by omega⟩
      rw [bl_drop s j hlt, hasP_cons] at hp
      have HP : Hid _ := hp
      clear hp
      go_wp2_with fail
      · go_ret
        refine ⟨ret_b ?_, rfl⟩
        have h46 : ((s[j]'hlt).toNat : Int) = 46 := by simpa using ‹((((s[j]'hlt).toNat : Int) == 46) = true)›
        rw [HP.out, if_pos h46]
      · go_roundg q
        case measure => omega
        case rel =>
          have h46 : ¬ ((s[j]'hlt).toNat : Int) = 46 := by simpa using ‹((((s[j]'hlt).toNat : Int) == 46) = false)›
          refine ⟨j + 1, by omega, by go_num, ?_, rfl⟩
          rw [HP.out, if_neg h46]
    · have hj : j = s.size := by omega
      subst hj
      rw [List.drop_eq_nil_of_le (by rw [Dc.bl_len]; exact Nat.le_refl _), hasP_nil] at hp
      have HP : Hid _ := hp
      clear hp
      go_wp2_with fail
      go_ret
      exact ⟨ret_b HP.out.symm, rfl⟩
end Go.Proofs.YtgaegajcejpmdaaGreatDoor
namespace Go.Proofs.YtgaegajcejpmdaaGreatDoor
open Go.RowKit
set_option linter.unusedVariables false
set_option linter.unusedSimpArgs false

theorem res1d {W : World} {X : Nat} {cs : Array Value} {fn : Func} {p : Tmp} {tmps : Array Value} (hf : fn.results = #[.cell p 43]) (hp : tmps.getD p undef = .pointer (some ⟨X, 0, none⟩)) (h : W.heap[X]? = some (.cells cs 43 (0, 0))) (hs : cs.size = 3) :
    (results fn tmps).run Tryz.prog W = .ok (.agg cs) W := by
  have hl := run_loadVar_row (P := Tryz.prog) W X 43 43 cs (0, 0) _ h Tryz.underlying43 rfl (by rw [hs]; kernel_rfl)
  have hp' : tmps[p]?.getD undef = .pointer (some ⟨X, 0, none⟩) := by simpa using hp
  simp [results, hf, hp', asAddr, hl]
set_option maxRecDepth 8000 in
set_option maxHeartbeats 1000000 in
theorem bound_r {n : Dc.Nm} (s : ByteArray) (w : World) (hs : s.size ≤ 100) (hp : Dc.parS (Dc.bl s) = .ok n) : Calls Tryz.prog 71 #[.string s] w fun e w' => ∃ rv, e = .returned (Dc.nmV n.1 rv n.2.2) ∧ Below w.heap.size w w' ∧ Dc.NmR w' rv n := by
  have hcn := Dc.par_ok hp
  have hx := M.nw_heap w (.cells #[.bool false, .slice none 0 0, .int .i64 0] 43)
  have hb0 : Below w.heap.size w (w.alloc (.cells #[.bool false, .slice none 0 0, .int .i64 0] 43)) := (Below.refl _ _).alloc (Nat.le_refl _) _
  obtain ⟨U, hU⟩ : ∃ U, w.alloc (.cells #[.bool false, .slice none 0 0, .int .i64 0] 43) = U := ⟨_, rfl⟩
  rw [hU] at hx hb0
  have HX : Hid _ := And.intro hx (And.intro hb0 hcn)
  clear hx hb0 hcn
  go_enter Tryz.func71, Tryz.ntmps71
  go_upto_region 1 with fail
  try rw [hU]
  clear hU
  go_upto_region 2 with (first | (go_at_call 41; refine Calls.mono (Dc.parse_r s _ (by unfold maxLen; omega)) ?_; intro e w1 hq; unfold Dc.PaP at hq; rw [hp] at hq; obtain ⟨hb1, rv, rfl, hbt⟩ := hq; obtain ⟨va, vc, rfl, _⟩ := hbt.form; have H1 : Hid _ := And.intro hb1 hbt; clear hb1 hbt) | (refine wpList_store_row rfl 43 _ _ rfl _ _ rfl rfl 43 _ (M.nw_heap _ _) (by kernel_rfl) rfl (by simp [Value.oneCell']) ?_; rw [alloc_setRow]))
  have hyV := M.nw_heap w1 (.cells #[.bool n.1, .slice va n.2.1.length vc, .int .i64 n.2.2] 43)
  have hbV : Below w1.heap.size w1 (w1.alloc (.cells #[.bool n.1, .slice va n.2.1.length vc, .int .i64 n.2.2] 43)) := (Below.refl _ _).alloc (Nat.le_refl _) _
  obtain ⟨V, hVV⟩ : ∃ X, w1.alloc (.cells #[.bool n.1, .slice va n.2.1.length vc, .int .i64 n.2.2] 43) = X := ⟨_, rfl⟩
  rw [hVV] at hyV hbV ⊢
  have hUV := H1.out.1.trans (hbV.mono H1.out.1.size)
  have hxV := (hUV.block _ (Dc.lt_of HX.out.1)).trans HX.out.1
  have hset := setRow_heap _ w.heap.size _ #[.bool n.1, .slice va n.2.1.length vc, .int .i64 n.2.2] _ _ hxV
  have hbs := below_setRow (HX.out.2.1.trans (hUV.mono HX.out.2.1.size)) (Nat.le_refl w.heap.size) #[.bool n.1, .slice va n.2.1.length vc, .int .i64 n.2.2]
  have hN : Dc.NmR (V.setRow w.heap.size #[.bool n.1, .slice va n.2.1.length vc, .int .i64 n.2.2]) (.slice va n.2.1.length vc) n := ⟨((H1.out.2.below hbV).kept (by simp [World.setRow]) (fun k hk => setRow_other V w.heap.size k _ hk) ((H1.out.2.below hbV).apart hxV)), HX.out.2.2.1, HX.out.2.2.2.2.1⟩
  have HF : Hid _ := And.intro hset (And.intro hbs hN)
  clear hset hbs hN hUV hbV hVV
  generalize w1.heap.size = Y at *
  go_wp2_with (first | (refine wpList_load_row rfl 43 _ rfl Y rfl 43 _ (0, 0) _ hyV Tryz.underlying43 rfl (by kernel_rfl) ?_) | (refine wpList_store_row rfl 43 _ _ rfl w.heap.size _ rfl rfl 43 _ hxV (by kernel_rfl) rfl (by simp [Value.oneCell']) ?_))
  exact bodyPost_ret (v := Dc.nmV n.1 (.slice va n.2.1.length vc) n.2.2) (by refine (res1d (X := w.heap.size) Tryz.results71 ?_ HF.out.1 rfl).trans ?_ <;> rfl) rfl ⟨_, rfl, HF.out.2.1, HF.out.2.2⟩
end Go.Proofs.YtgaegajcejpmdaaGreatDoor
