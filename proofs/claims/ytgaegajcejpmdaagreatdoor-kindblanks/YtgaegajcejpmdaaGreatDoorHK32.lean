/- Text of a value, of each kind. -/
import Derived.Test.YtgaegajcejpmdaaGreatDoorHJ45
namespace Go.Proofs.YtgaegajcejpmdaaGreatDoor
open Go.RowKit
set_option linter.unusedVariables false
set_option linter.unusedSimpArgs false

def moF (m : Dt.Mo) : List Int := if m.hz = true then [m.y, m.m, m.d, m.s, m.n, m.z] else [m.y, m.m, m.d, m.s, m.n]
def spF (q : Dt.Sp) : List Int := [q.o, q.s, q.n]
/-- A value's text. -/
def txK : Kd → ByteArray
  | .txt _ t => t
  | .num n => Dc.sb (Dc.txS n)
  | .mom k m => rowT k (moF m)
  | .spn q => rowT 32 (spF q)
def inV (l : List Int) : List Value := l.map (Value.int .i64)
theorem row_own (k : Int) (l : List Int) {w : World} (hw : Lw w) (hl : l.length ≤ 10) (h0 : 0 < l.length) (hI : ∀ n ∈ l, I64 n) (W : World) (hW : Below w.heap.size w W) (base : Nat) (v : Value) (ho : W.ownsRow base 3 1 v l.length (inV l)) :
    Calls Tryz.prog 46 #[.int .i64 k, v] W fun e w' => e = .returned (.string (rowT k l)) ∧ Below w.heap.size w w' := by
  obtain ⟨h1, h2⟩ := ho
  rcases h2 with ⟨_, h⟩ | ⟨g, cap, cur, rfl, h3, h4, h5, h6, h7, h8⟩
  · omega
  · have hown : W.ownsRow base 3 1 (.slice (some ⟨g, 0, none⟩) l.length cap) l.length (inV l) := ⟨h1, .inr ⟨g, cap, cur, rfl, h3, h4, h5, h6, h7, h8⟩⟩
    refine (row_p k l g cap W (hw.below hW) hl hI (M.lt_of h4) (fun j hj => ?_)).mono ?_
    · have := World.ownsRow.cells (g := g) hown rfl j (.int .i64 l[j]) (by simp [inV, hj])
      rw [Addr.add_lit, Nat.zero_add] at this
      exact this
    · rintro e w' ⟨rfl, hb⟩
      exact ⟨rfl, hW.trans (hb.mono hW.size)⟩
theorem own_new (w : World) (l : List Int) (base : Nat) (hb : base ≤ w.heap.size) (hl : l.length ≤ 100) (B : Nat) (hB : w.heap.size = B) : (w.alloc (.cells (inV l).toArray 3)).ownsRow base 3 1 (.slice (some ⟨B, 0, none⟩) l.length l.length) l.length (inV l) := by
  subst hB
  refine ⟨by simp [inV], .inr ⟨w.heap.size, l.length, (inV l).toArray, rfl, hb, M.nw_heap _ _, Nat.le_refl _, by unfold maxLen; omega, by simp [inV], ?_⟩⟩
  simp only [Nat.mul_one]
  exact List.take_of_length_le (by simp [inV])
theorem cell_one_at (w : World) (x : Value) (t : TypeId) (B : Nat) (hB : w.heap.size = B) : ∀ j u, [x][j]? = some u → (w.alloc (.cells #[x] t)).cell? ((⟨B, 0, none⟩ : Addr).add j) = some u := by
  subst hB
  exact cell_one_new w x t
theorem grown_bel {w W w' : World} {g n c : Nat} (h : Below w.heap.size w W) (hg : W.grownBy w' (Value.slice (some ⟨g, 0, none⟩) n c).ownBlock) (hb : w.heap.size ≤ g) : Below w.heap.size w w' :=
  h.trans ((M.Fro.grown (O := fun i => i = g) hg (fun i hi => by simp [Value.ownBlock] at hi; omega)).toBelow h.size (fun i hi hq => by omega))
theorem grown_cell {W w' : World} {g n c i o : Nat} {v : Value} (hg : W.grownBy w' (Value.slice (some ⟨g, 0, none⟩) n c).ownBlock) (hi : i < W.heap.size) (hne : i ≠ g) (h : W.cell? ⟨i, o, none⟩ = some v) : w'.cell? ⟨i, o, none⟩ = some v :=
  M.cell_of ((M.Fro.grown (O := fun i => i = g) hg (fun i hi => by simp [Value.ownBlock] at hi; omega)).block i hi hne) h
theorem info_n : ∃ i, Tryz.prog.info? 3 = some i ∧ i.zero = some (.int .i64 0) ∧ i.size = 1 ∧ i.bytes = 8 := by
  have : (Tryz.prog.info? 3).map (fun i => (i.zero, i.size, i.bytes)) = some (some (.int .i64 0), 1, 8) := by kernel_rfl
  cases h : Tryz.prog.info? 3 with
  | none => rw [h] at this; simp at this
  | some i =>
    rw [h] at this
    simp at this
    exact ⟨i, rfl, this.1, this.2.1, this.2.2⟩
theorem sp_I {q : Dt.Sp} (h : Dt.SpT q) : ∀ n ∈ spF q, I64 n := by
  intro n hn
  have := h.o0; have := h.o1; have := h.s0; have := h.s1; have := h.n0; have := h.n1
  simp only [spF, List.mem_cons, List.not_mem_nil, or_false] at hn
  unfold I64
  rcases hn with rfl | rfl | rfl <;> omega
theorem mo_I {m : Dt.Mo} (h : Dt.MoL m) : I64 m.y ∧ I64 m.m ∧ I64 m.d ∧ I64 m.s ∧ I64 m.n ∧ I64 m.z := by
  have := h.b.y0; have := h.b.y1; have := h.b.m0; have := h.b.m1; have := h.b.d0; have := h.b.d1; have := h.b.s0; have := h.b.s1; have := h.n0; have := h.n1; have := h.z0; have := h.z1
  unfold I64
  omega
theorem bel1 {w W : World} (h : Below w.heap.size w W) (o : Obj) : Below w.heap.size w (W.alloc o) := h.alloc h.size o
set_option maxRecDepth 100000 in
set_option maxHeartbeats 1600000 in
theorem text_spn (t1 : ByteArray) (g1 : Bool) (a1 : Option Addr) (b1 c1 : Nat) (s1 : Int) (m1 : Dt.Mo) (q1 : Dt.Sp) {w : World} (hw : Lw w) (l1 : Dt.SpT q1) : Calls Tryz.prog 24 #[vlV 32 t1 g1 (.slice a1 b1 c1) s1 m1 q1] w fun e w' => e = .returned (.string (rowT 32 (spF q1))) ∧ Below w.heap.size w w' := by
  have HR : Hid _ := row_own 32 (spF q1) hw (by simp [spF]) (by simp [spF]) (sp_I l1)
  have HN : Hid _ := fun W hW => own_new W (spF q1) w.heap.size hW (by simp [spF])
  clear l1 hw
  go_enter Tryz.func24, Tryz.ntmps24
  go_wp2_with (go_at_call 46; refine Calls.mono (HR.out _ (bel1 (bel1 (Below.refl _ _) _) _) _ _ (HN.out _ (bel1 (Below.refl _ _) _).size _ (by simp))) ?_; rintro e w9 ⟨rfl, hb9⟩)
  go_ret
  exact ⟨rfl, hb9⟩
set_option maxRecDepth 100000 in
set_option maxHeartbeats 1600000 in
theorem text_m24f (t1 : ByteArray) (g1 : Bool) (a1 : Option Addr) (b1 c1 : Nat) (s1 mk my mm md ms mn mz : Int) (q1 : Dt.Sp) {w : World} (hw : Lw w) (hI : ∀ n ∈ [my, mm, md, ms, mn], I64 n) : Calls Tryz.prog 24 #[vlV 24 t1 g1 (.slice a1 b1 c1) s1 ⟨mk, my, mm, md, ms, mn, false, mz⟩ q1] w fun e w' => e = .returned (.string (rowT 24 [my, mm, md, ms, mn])) ∧ Below w.heap.size w w' := by
  obtain ⟨i0, hi, hz, hzs, hby⟩ := info_n
  have HR : Hid _ := row_own 24 [my, mm, md, ms, mn] hw (by simp) (by simp) hI
  have HN : Hid _ := fun W hW => own_new W [my, mm, md, ms, mn] w.heap.size hW (by simp)
  have HC : Hid _ := fun W (hW : Below (w.alloc (.cells #[.int .i64 24, .string t1, .bool g1, .slice a1 b1 c1, .int .i64 s1, .int .i64 mk, .int .i64 my, .int .i64 mm, .int .i64 md, .int .i64 ms, .int .i64 mn, .bool false, .int .i64 mz, .int .i64 q1.o, .int .i64 q1.s, .int .i64 q1.n] 40)).heap.size (w.alloc (.cells #[.int .i64 24, .string t1, .bool g1, .slice a1 b1 c1, .int .i64 s1, .int .i64 mk, .int .i64 my, .int .i64 mm, .int .i64 md, .int .i64 ms, .int .i64 mn, .bool false, .int .i64 mz, .int .i64 q1.o, .int .i64 q1.s, .int .i64 q1.n] 40)) W) => (row_cell ((hW.block _ (by simp)).trans (M.nw_heap w (.cells #[.int .i64 24, .string t1, .bool g1, .slice a1 b1 c1, .int .i64 s1, .int .i64 mk, .int .i64 my, .int .i64 mm, .int .i64 md, .int .i64 ms, .int .i64 mn, .bool false, .int .i64 mz, .int .i64 q1.o, .int .i64 q1.s, .int .i64 q1.n] 40))) : W.cell? ⟨w.heap.size, 0, none⟩ = some (.int .i64 24))
  clear hI hw
  go_enter Tryz.func24, Tryz.ntmps24
  go_wp2_with (go_at_call 46; refine Calls.mono (HR.out _ (bel1 (bel1 (bel1 (Below.refl _ _) _) _) _) _ _ (HN.out _ (bel1 (bel1 (Below.refl _ _) _) _).size _ (by simp))) ?_; rintro e w9 ⟨rfl, hb9⟩)
  go_ret
  exact ⟨rfl, hb9⟩
set_option maxRecDepth 100000 in
set_option maxHeartbeats 1600000 in
theorem text_m24t (t1 : ByteArray) (g1 : Bool) (a1 : Option Addr) (b1 c1 : Nat) (s1 mk my mm md ms mn mz : Int) (q1 : Dt.Sp) {w : World} (hw : Lw w) (hI : ∀ n ∈ [my, mm, md, ms, mn, mz], I64 n) : Calls Tryz.prog 24 #[vlV 24 t1 g1 (.slice a1 b1 c1) s1 ⟨mk, my, mm, md, ms, mn, true, mz⟩ q1] w fun e w' => e = .returned (.string (rowT 24 [my, mm, md, ms, mn, mz])) ∧ Below w.heap.size w w' := by
  obtain ⟨i0, hi, hz, hzs, hby⟩ := info_n
  have HR : Hid _ := row_own 24 [my, mm, md, ms, mn, mz] hw (by simp) (by simp) hI
  have HN : Hid _ := fun W hW => own_new W [my, mm, md, ms, mn] w.heap.size hW (by simp)
  have HC : Hid _ := fun W (hW : Below (w.alloc (.cells #[.int .i64 24, .string t1, .bool g1, .slice a1 b1 c1, .int .i64 s1, .int .i64 mk, .int .i64 my, .int .i64 mm, .int .i64 md, .int .i64 ms, .int .i64 mn, .bool true, .int .i64 mz, .int .i64 q1.o, .int .i64 q1.s, .int .i64 q1.n] 40)).heap.size (w.alloc (.cells #[.int .i64 24, .string t1, .bool g1, .slice a1 b1 c1, .int .i64 s1, .int .i64 mk, .int .i64 my, .int .i64 mm, .int .i64 md, .int .i64 ms, .int .i64 mn, .bool true, .int .i64 mz, .int .i64 q1.o, .int .i64 q1.s, .int .i64 q1.n] 40)) W) => (row_cell ((hW.block _ (by simp)).trans (M.nw_heap w (.cells #[.int .i64 24, .string t1, .bool g1, .slice a1 b1 c1, .int .i64 s1, .int .i64 mk, .int .i64 my, .int .i64 mm, .int .i64 md, .int .i64 ms, .int .i64 mn, .bool true, .int .i64 mz, .int .i64 q1.o, .int .i64 q1.s, .int .i64 q1.n] 40))) : W.cell? ⟨w.heap.size, 0, none⟩ = some (.int .i64 24))
  clear hI hw
  go_enter Tryz.func24, Tryz.ntmps24
  go_wp2_with (first | (at_builtin; refine wpList_append_own _ rfl _ _ 60 rfl w.heap.size 3 i0 (.int .i64 0) 1 8 Tryz.underlying60 hi hz hzs hby rfl (by decide) _ _ _ rfl (M.row_below (HN.out _ (bel1 (bel1 (Below.refl _ _) _) _).size _ (by simp)) ((Below.refl _ _).alloc (Nat.le_refl _) _)) ⟨_, 0, none⟩ 1 1 [.int .i64 mz] rfl rfl (cell_one_at _ _ _ _ (by simp)) (by simp [Value.oneCell']) (by simp [maxLen]) (by simp) (by simp; omega) ?_; intro v' w7 hown7 hgr7 _; have hb7 : Hid (Below w.heap.size w w7) := grown_bel (bel1 (bel1 (bel1 (bel1 (Below.refl w.heap.size w) _) _) _) _) hgr7 (by omega); have ho7 : Hid _ := hown7; have hx7 : w7.cell? ⟨w.heap.size, 0, none⟩ = some (.int .i64 24) := grown_cell hgr7 (by simp; omega) (by omega) (HC.out _ (bel1 (bel1 (bel1 (Below.refl _ _) _) _) _)); clear hown7 hgr7) | (go_at_call 46; refine Calls.mono (HR.out _ hb7.out _ _ ho7.out) ?_; rintro e w9 ⟨rfl, hb9⟩))
  go_ret
  exact ⟨rfl, hb9⟩
set_option maxRecDepth 100000 in
set_option maxHeartbeats 1600000 in
theorem text_m25f (t1 : ByteArray) (g1 : Bool) (a1 : Option Addr) (b1 c1 : Nat) (s1 mk my mm md ms mn mz : Int) (q1 : Dt.Sp) {w : World} (hw : Lw w) (hI : ∀ n ∈ [my, mm, md, ms, mn], I64 n) : Calls Tryz.prog 24 #[vlV 25 t1 g1 (.slice a1 b1 c1) s1 ⟨mk, my, mm, md, ms, mn, false, mz⟩ q1] w fun e w' => e = .returned (.string (rowT 25 [my, mm, md, ms, mn])) ∧ Below w.heap.size w w' := by
  obtain ⟨i0, hi, hz, hzs, hby⟩ := info_n
  have HR : Hid _ := row_own 25 [my, mm, md, ms, mn] hw (by simp) (by simp) hI
  have HN : Hid _ := fun W hW => own_new W [my, mm, md, ms, mn] w.heap.size hW (by simp)
  have HC : Hid _ := fun W (hW : Below (w.alloc (.cells #[.int .i64 25, .string t1, .bool g1, .slice a1 b1 c1, .int .i64 s1, .int .i64 mk, .int .i64 my, .int .i64 mm, .int .i64 md, .int .i64 ms, .int .i64 mn, .bool false, .int .i64 mz, .int .i64 q1.o, .int .i64 q1.s, .int .i64 q1.n] 40)).heap.size (w.alloc (.cells #[.int .i64 25, .string t1, .bool g1, .slice a1 b1 c1, .int .i64 s1, .int .i64 mk, .int .i64 my, .int .i64 mm, .int .i64 md, .int .i64 ms, .int .i64 mn, .bool false, .int .i64 mz, .int .i64 q1.o, .int .i64 q1.s, .int .i64 q1.n] 40)) W) => (row_cell ((hW.block _ (by simp)).trans (M.nw_heap w (.cells #[.int .i64 25, .string t1, .bool g1, .slice a1 b1 c1, .int .i64 s1, .int .i64 mk, .int .i64 my, .int .i64 mm, .int .i64 md, .int .i64 ms, .int .i64 mn, .bool false, .int .i64 mz, .int .i64 q1.o, .int .i64 q1.s, .int .i64 q1.n] 40))) : W.cell? ⟨w.heap.size, 0, none⟩ = some (.int .i64 25))
  clear hI hw
  go_enter Tryz.func24, Tryz.ntmps24
  go_wp2_with (go_at_call 46; refine Calls.mono (HR.out _ (bel1 (bel1 (bel1 (Below.refl _ _) _) _) _) _ _ (HN.out _ (bel1 (bel1 (Below.refl _ _) _) _).size _ (by simp))) ?_; rintro e w9 ⟨rfl, hb9⟩)
  go_ret
  exact ⟨rfl, hb9⟩
set_option maxRecDepth 100000 in
set_option maxHeartbeats 1600000 in
theorem text_m25t (t1 : ByteArray) (g1 : Bool) (a1 : Option Addr) (b1 c1 : Nat) (s1 mk my mm md ms mn mz : Int) (q1 : Dt.Sp) {w : World} (hw : Lw w) (hI : ∀ n ∈ [my, mm, md, ms, mn, mz], I64 n) : Calls Tryz.prog 24 #[vlV 25 t1 g1 (.slice a1 b1 c1) s1 ⟨mk, my, mm, md, ms, mn, true, mz⟩ q1] w fun e w' => e = .returned (.string (rowT 25 [my, mm, md, ms, mn, mz])) ∧ Below w.heap.size w w' := by
  obtain ⟨i0, hi, hz, hzs, hby⟩ := info_n
  have HR : Hid _ := row_own 25 [my, mm, md, ms, mn, mz] hw (by simp) (by simp) hI
  have HN : Hid _ := fun W hW => own_new W [my, mm, md, ms, mn] w.heap.size hW (by simp)
  have HC : Hid _ := fun W (hW : Below (w.alloc (.cells #[.int .i64 25, .string t1, .bool g1, .slice a1 b1 c1, .int .i64 s1, .int .i64 mk, .int .i64 my, .int .i64 mm, .int .i64 md, .int .i64 ms, .int .i64 mn, .bool true, .int .i64 mz, .int .i64 q1.o, .int .i64 q1.s, .int .i64 q1.n] 40)).heap.size (w.alloc (.cells #[.int .i64 25, .string t1, .bool g1, .slice a1 b1 c1, .int .i64 s1, .int .i64 mk, .int .i64 my, .int .i64 mm, .int .i64 md, .int .i64 ms, .int .i64 mn, .bool true, .int .i64 mz, .int .i64 q1.o, .int .i64 q1.s, .int .i64 q1.n] 40)) W) => (row_cell ((hW.block _ (by simp)).trans (M.nw_heap w (.cells #[.int .i64 25, .string t1, .bool g1, .slice a1 b1 c1, .int .i64 s1, .int .i64 mk, .int .i64 my, .int .i64 mm, .int .i64 md, .int .i64 ms, .int .i64 mn, .bool true, .int .i64 mz, .int .i64 q1.o, .int .i64 q1.s, .int .i64 q1.n] 40))) : W.cell? ⟨w.heap.size, 0, none⟩ = some (.int .i64 25))
  clear hI hw
  go_enter Tryz.func24, Tryz.ntmps24
  go_wp2_with (first | (at_builtin; refine wpList_append_own _ rfl _ _ 60 rfl w.heap.size 3 i0 (.int .i64 0) 1 8 Tryz.underlying60 hi hz hzs hby rfl (by decide) _ _ _ rfl (M.row_below (HN.out _ (bel1 (bel1 (Below.refl _ _) _) _).size _ (by simp)) ((Below.refl _ _).alloc (Nat.le_refl _) _)) ⟨_, 0, none⟩ 1 1 [.int .i64 mz] rfl rfl (cell_one_at _ _ _ _ (by simp)) (by simp [Value.oneCell']) (by simp [maxLen]) (by simp) (by simp; omega) ?_; intro v' w7 hown7 hgr7 _; have hb7 : Hid (Below w.heap.size w w7) := grown_bel (bel1 (bel1 (bel1 (bel1 (Below.refl w.heap.size w) _) _) _) _) hgr7 (by omega); have ho7 : Hid _ := hown7; have hx7 : w7.cell? ⟨w.heap.size, 0, none⟩ = some (.int .i64 25) := grown_cell hgr7 (by simp; omega) (by omega) (HC.out _ (bel1 (bel1 (bel1 (Below.refl _ _) _) _) _)); clear hown7 hgr7) | (go_at_call 46; refine Calls.mono (HR.out _ hb7.out _ _ ho7.out) ?_; rintro e w9 ⟨rfl, hb9⟩))
  go_ret
  exact ⟨rfl, hb9⟩
set_option maxRecDepth 100000 in
set_option maxHeartbeats 1600000 in
theorem text_m26f (t1 : ByteArray) (g1 : Bool) (a1 : Option Addr) (b1 c1 : Nat) (s1 mk my mm md ms mn mz : Int) (q1 : Dt.Sp) {w : World} (hw : Lw w) (hI : ∀ n ∈ [my, mm, md, ms, mn], I64 n) : Calls Tryz.prog 24 #[vlV 26 t1 g1 (.slice a1 b1 c1) s1 ⟨mk, my, mm, md, ms, mn, false, mz⟩ q1] w fun e w' => e = .returned (.string (rowT 26 [my, mm, md, ms, mn])) ∧ Below w.heap.size w w' := by
  obtain ⟨i0, hi, hz, hzs, hby⟩ := info_n
  have HR : Hid _ := row_own 26 [my, mm, md, ms, mn] hw (by simp) (by simp) hI
  have HN : Hid _ := fun W hW => own_new W [my, mm, md, ms, mn] w.heap.size hW (by simp)
  have HC : Hid _ := fun W (hW : Below (w.alloc (.cells #[.int .i64 26, .string t1, .bool g1, .slice a1 b1 c1, .int .i64 s1, .int .i64 mk, .int .i64 my, .int .i64 mm, .int .i64 md, .int .i64 ms, .int .i64 mn, .bool false, .int .i64 mz, .int .i64 q1.o, .int .i64 q1.s, .int .i64 q1.n] 40)).heap.size (w.alloc (.cells #[.int .i64 26, .string t1, .bool g1, .slice a1 b1 c1, .int .i64 s1, .int .i64 mk, .int .i64 my, .int .i64 mm, .int .i64 md, .int .i64 ms, .int .i64 mn, .bool false, .int .i64 mz, .int .i64 q1.o, .int .i64 q1.s, .int .i64 q1.n] 40)) W) => (row_cell ((hW.block _ (by simp)).trans (M.nw_heap w (.cells #[.int .i64 26, .string t1, .bool g1, .slice a1 b1 c1, .int .i64 s1, .int .i64 mk, .int .i64 my, .int .i64 mm, .int .i64 md, .int .i64 ms, .int .i64 mn, .bool false, .int .i64 mz, .int .i64 q1.o, .int .i64 q1.s, .int .i64 q1.n] 40))) : W.cell? ⟨w.heap.size, 0, none⟩ = some (.int .i64 26))
  clear hI hw
  go_enter Tryz.func24, Tryz.ntmps24
  go_wp2_with (go_at_call 46; refine Calls.mono (HR.out _ (bel1 (bel1 (bel1 (Below.refl _ _) _) _) _) _ _ (HN.out _ (bel1 (bel1 (Below.refl _ _) _) _).size _ (by simp))) ?_; rintro e w9 ⟨rfl, hb9⟩)
  go_ret
  exact ⟨rfl, hb9⟩
set_option maxRecDepth 100000 in
set_option maxHeartbeats 1600000 in
theorem text_m26t (t1 : ByteArray) (g1 : Bool) (a1 : Option Addr) (b1 c1 : Nat) (s1 mk my mm md ms mn mz : Int) (q1 : Dt.Sp) {w : World} (hw : Lw w) (hI : ∀ n ∈ [my, mm, md, ms, mn, mz], I64 n) : Calls Tryz.prog 24 #[vlV 26 t1 g1 (.slice a1 b1 c1) s1 ⟨mk, my, mm, md, ms, mn, true, mz⟩ q1] w fun e w' => e = .returned (.string (rowT 26 [my, mm, md, ms, mn, mz])) ∧ Below w.heap.size w w' := by
  obtain ⟨i0, hi, hz, hzs, hby⟩ := info_n
  have HR : Hid _ := row_own 26 [my, mm, md, ms, mn, mz] hw (by simp) (by simp) hI
  have HN : Hid _ := fun W hW => own_new W [my, mm, md, ms, mn] w.heap.size hW (by simp)
  have HC : Hid _ := fun W (hW : Below (w.alloc (.cells #[.int .i64 26, .string t1, .bool g1, .slice a1 b1 c1, .int .i64 s1, .int .i64 mk, .int .i64 my, .int .i64 mm, .int .i64 md, .int .i64 ms, .int .i64 mn, .bool true, .int .i64 mz, .int .i64 q1.o, .int .i64 q1.s, .int .i64 q1.n] 40)).heap.size (w.alloc (.cells #[.int .i64 26, .string t1, .bool g1, .slice a1 b1 c1, .int .i64 s1, .int .i64 mk, .int .i64 my, .int .i64 mm, .int .i64 md, .int .i64 ms, .int .i64 mn, .bool true, .int .i64 mz, .int .i64 q1.o, .int .i64 q1.s, .int .i64 q1.n] 40)) W) => (row_cell ((hW.block _ (by simp)).trans (M.nw_heap w (.cells #[.int .i64 26, .string t1, .bool g1, .slice a1 b1 c1, .int .i64 s1, .int .i64 mk, .int .i64 my, .int .i64 mm, .int .i64 md, .int .i64 ms, .int .i64 mn, .bool true, .int .i64 mz, .int .i64 q1.o, .int .i64 q1.s, .int .i64 q1.n] 40))) : W.cell? ⟨w.heap.size, 0, none⟩ = some (.int .i64 26))
  clear hI hw
  go_enter Tryz.func24, Tryz.ntmps24
  go_wp2_with (first | (at_builtin; refine wpList_append_own _ rfl _ _ 60 rfl w.heap.size 3 i0 (.int .i64 0) 1 8 Tryz.underlying60 hi hz hzs hby rfl (by decide) _ _ _ rfl (M.row_below (HN.out _ (bel1 (bel1 (Below.refl _ _) _) _).size _ (by simp)) ((Below.refl _ _).alloc (Nat.le_refl _) _)) ⟨_, 0, none⟩ 1 1 [.int .i64 mz] rfl rfl (cell_one_at _ _ _ _ (by simp)) (by simp [Value.oneCell']) (by simp [maxLen]) (by simp) (by simp; omega) ?_; intro v' w7 hown7 hgr7 _; have hb7 : Hid (Below w.heap.size w w7) := grown_bel (bel1 (bel1 (bel1 (bel1 (Below.refl w.heap.size w) _) _) _) _) hgr7 (by omega); have ho7 : Hid _ := hown7; have hx7 : w7.cell? ⟨w.heap.size, 0, none⟩ = some (.int .i64 26) := grown_cell hgr7 (by simp; omega) (by omega) (HC.out _ (bel1 (bel1 (bel1 (Below.refl _ _) _) _) _)); clear hown7 hgr7) | (go_at_call 46; refine Calls.mono (HR.out _ hb7.out _ _ ho7.out) ?_; rintro e w9 ⟨rfl, hb9⟩))
  go_ret
  exact ⟨rfl, hb9⟩
set_option maxRecDepth 100000 in
set_option maxHeartbeats 1600000 in
theorem text_m27f (t1 : ByteArray) (g1 : Bool) (a1 : Option Addr) (b1 c1 : Nat) (s1 mk my mm md ms mn mz : Int) (q1 : Dt.Sp) {w : World} (hw : Lw w) (hI : ∀ n ∈ [my, mm, md, ms, mn], I64 n) : Calls Tryz.prog 24 #[vlV 27 t1 g1 (.slice a1 b1 c1) s1 ⟨mk, my, mm, md, ms, mn, false, mz⟩ q1] w fun e w' => e = .returned (.string (rowT 27 [my, mm, md, ms, mn])) ∧ Below w.heap.size w w' := by
  obtain ⟨i0, hi, hz, hzs, hby⟩ := info_n
  have HR : Hid _ := row_own 27 [my, mm, md, ms, mn] hw (by simp) (by simp) hI
  have HN : Hid _ := fun W hW => own_new W [my, mm, md, ms, mn] w.heap.size hW (by simp)
  have HC : Hid _ := fun W (hW : Below (w.alloc (.cells #[.int .i64 27, .string t1, .bool g1, .slice a1 b1 c1, .int .i64 s1, .int .i64 mk, .int .i64 my, .int .i64 mm, .int .i64 md, .int .i64 ms, .int .i64 mn, .bool false, .int .i64 mz, .int .i64 q1.o, .int .i64 q1.s, .int .i64 q1.n] 40)).heap.size (w.alloc (.cells #[.int .i64 27, .string t1, .bool g1, .slice a1 b1 c1, .int .i64 s1, .int .i64 mk, .int .i64 my, .int .i64 mm, .int .i64 md, .int .i64 ms, .int .i64 mn, .bool false, .int .i64 mz, .int .i64 q1.o, .int .i64 q1.s, .int .i64 q1.n] 40)) W) => (row_cell ((hW.block _ (by simp)).trans (M.nw_heap w (.cells #[.int .i64 27, .string t1, .bool g1, .slice a1 b1 c1, .int .i64 s1, .int .i64 mk, .int .i64 my, .int .i64 mm, .int .i64 md, .int .i64 ms, .int .i64 mn, .bool false, .int .i64 mz, .int .i64 q1.o, .int .i64 q1.s, .int .i64 q1.n] 40))) : W.cell? ⟨w.heap.size, 0, none⟩ = some (.int .i64 27))
  clear hI hw
  go_enter Tryz.func24, Tryz.ntmps24
  go_wp2_with (go_at_call 46; refine Calls.mono (HR.out _ (bel1 (bel1 (bel1 (Below.refl _ _) _) _) _) _ _ (HN.out _ (bel1 (bel1 (Below.refl _ _) _) _).size _ (by simp))) ?_; rintro e w9 ⟨rfl, hb9⟩)
  go_ret
  exact ⟨rfl, hb9⟩
set_option maxRecDepth 100000 in
set_option maxHeartbeats 1600000 in
theorem text_m27t (t1 : ByteArray) (g1 : Bool) (a1 : Option Addr) (b1 c1 : Nat) (s1 mk my mm md ms mn mz : Int) (q1 : Dt.Sp) {w : World} (hw : Lw w) (hI : ∀ n ∈ [my, mm, md, ms, mn, mz], I64 n) : Calls Tryz.prog 24 #[vlV 27 t1 g1 (.slice a1 b1 c1) s1 ⟨mk, my, mm, md, ms, mn, true, mz⟩ q1] w fun e w' => e = .returned (.string (rowT 27 [my, mm, md, ms, mn, mz])) ∧ Below w.heap.size w w' := by
  obtain ⟨i0, hi, hz, hzs, hby⟩ := info_n
  have HR : Hid _ := row_own 27 [my, mm, md, ms, mn, mz] hw (by simp) (by simp) hI
  have HN : Hid _ := fun W hW => own_new W [my, mm, md, ms, mn] w.heap.size hW (by simp)
  have HC : Hid _ := fun W (hW : Below (w.alloc (.cells #[.int .i64 27, .string t1, .bool g1, .slice a1 b1 c1, .int .i64 s1, .int .i64 mk, .int .i64 my, .int .i64 mm, .int .i64 md, .int .i64 ms, .int .i64 mn, .bool true, .int .i64 mz, .int .i64 q1.o, .int .i64 q1.s, .int .i64 q1.n] 40)).heap.size (w.alloc (.cells #[.int .i64 27, .string t1, .bool g1, .slice a1 b1 c1, .int .i64 s1, .int .i64 mk, .int .i64 my, .int .i64 mm, .int .i64 md, .int .i64 ms, .int .i64 mn, .bool true, .int .i64 mz, .int .i64 q1.o, .int .i64 q1.s, .int .i64 q1.n] 40)) W) => (row_cell ((hW.block _ (by simp)).trans (M.nw_heap w (.cells #[.int .i64 27, .string t1, .bool g1, .slice a1 b1 c1, .int .i64 s1, .int .i64 mk, .int .i64 my, .int .i64 mm, .int .i64 md, .int .i64 ms, .int .i64 mn, .bool true, .int .i64 mz, .int .i64 q1.o, .int .i64 q1.s, .int .i64 q1.n] 40))) : W.cell? ⟨w.heap.size, 0, none⟩ = some (.int .i64 27))
  clear hI hw
  go_enter Tryz.func24, Tryz.ntmps24
  go_wp2_with (first | (at_builtin; refine wpList_append_own _ rfl _ _ 60 rfl w.heap.size 3 i0 (.int .i64 0) 1 8 Tryz.underlying60 hi hz hzs hby rfl (by decide) _ _ _ rfl (M.row_below (HN.out _ (bel1 (bel1 (Below.refl _ _) _) _).size _ (by simp)) ((Below.refl _ _).alloc (Nat.le_refl _) _)) ⟨_, 0, none⟩ 1 1 [.int .i64 mz] rfl rfl (cell_one_at _ _ _ _ (by simp)) (by simp [Value.oneCell']) (by simp [maxLen]) (by simp) (by simp; omega) ?_; intro v' w7 hown7 hgr7 _; have hb7 : Hid (Below w.heap.size w w7) := grown_bel (bel1 (bel1 (bel1 (bel1 (Below.refl w.heap.size w) _) _) _) _) hgr7 (by omega); have ho7 : Hid _ := hown7; have hx7 : w7.cell? ⟨w.heap.size, 0, none⟩ = some (.int .i64 27) := grown_cell hgr7 (by simp; omega) (by omega) (HC.out _ (bel1 (bel1 (bel1 (Below.refl _ _) _) _) _)); clear hown7 hgr7) | (go_at_call 46; refine Calls.mono (HR.out _ hb7.out _ _ ho7.out) ?_; rintro e w9 ⟨rfl, hb9⟩))
  go_ret
  exact ⟨rfl, hb9⟩
set_option maxRecDepth 100000 in
set_option maxHeartbeats 1600000 in
theorem text_m28f (t1 : ByteArray) (g1 : Bool) (a1 : Option Addr) (b1 c1 : Nat) (s1 mk my mm md ms mn mz : Int) (q1 : Dt.Sp) {w : World} (hw : Lw w) (hI : ∀ n ∈ [my, mm, md, ms, mn], I64 n) : Calls Tryz.prog 24 #[vlV 28 t1 g1 (.slice a1 b1 c1) s1 ⟨mk, my, mm, md, ms, mn, false, mz⟩ q1] w fun e w' => e = .returned (.string (rowT 28 [my, mm, md, ms, mn])) ∧ Below w.heap.size w w' := by
  obtain ⟨i0, hi, hz, hzs, hby⟩ := info_n
  have HR : Hid _ := row_own 28 [my, mm, md, ms, mn] hw (by simp) (by simp) hI
  have HN : Hid _ := fun W hW => own_new W [my, mm, md, ms, mn] w.heap.size hW (by simp)
  have HC : Hid _ := fun W (hW : Below (w.alloc (.cells #[.int .i64 28, .string t1, .bool g1, .slice a1 b1 c1, .int .i64 s1, .int .i64 mk, .int .i64 my, .int .i64 mm, .int .i64 md, .int .i64 ms, .int .i64 mn, .bool false, .int .i64 mz, .int .i64 q1.o, .int .i64 q1.s, .int .i64 q1.n] 40)).heap.size (w.alloc (.cells #[.int .i64 28, .string t1, .bool g1, .slice a1 b1 c1, .int .i64 s1, .int .i64 mk, .int .i64 my, .int .i64 mm, .int .i64 md, .int .i64 ms, .int .i64 mn, .bool false, .int .i64 mz, .int .i64 q1.o, .int .i64 q1.s, .int .i64 q1.n] 40)) W) => (row_cell ((hW.block _ (by simp)).trans (M.nw_heap w (.cells #[.int .i64 28, .string t1, .bool g1, .slice a1 b1 c1, .int .i64 s1, .int .i64 mk, .int .i64 my, .int .i64 mm, .int .i64 md, .int .i64 ms, .int .i64 mn, .bool false, .int .i64 mz, .int .i64 q1.o, .int .i64 q1.s, .int .i64 q1.n] 40))) : W.cell? ⟨w.heap.size, 0, none⟩ = some (.int .i64 28))
  clear hI hw
  go_enter Tryz.func24, Tryz.ntmps24
  go_wp2_with (go_at_call 46; refine Calls.mono (HR.out _ (bel1 (bel1 (bel1 (Below.refl _ _) _) _) _) _ _ (HN.out _ (bel1 (bel1 (Below.refl _ _) _) _).size _ (by simp))) ?_; rintro e w9 ⟨rfl, hb9⟩)
  go_ret
  exact ⟨rfl, hb9⟩
set_option maxRecDepth 100000 in
set_option maxHeartbeats 1600000 in
theorem text_m28t (t1 : ByteArray) (g1 : Bool) (a1 : Option Addr) (b1 c1 : Nat) (s1 mk my mm md ms mn mz : Int) (q1 : Dt.Sp) {w : World} (hw : Lw w) (hI : ∀ n ∈ [my, mm, md, ms, mn, mz], I64 n) : Calls Tryz.prog 24 #[vlV 28 t1 g1 (.slice a1 b1 c1) s1 ⟨mk, my, mm, md, ms, mn, true, mz⟩ q1] w fun e w' => e = .returned (.string (rowT 28 [my, mm, md, ms, mn, mz])) ∧ Below w.heap.size w w' := by
  obtain ⟨i0, hi, hz, hzs, hby⟩ := info_n
  have HR : Hid _ := row_own 28 [my, mm, md, ms, mn, mz] hw (by simp) (by simp) hI
  have HN : Hid _ := fun W hW => own_new W [my, mm, md, ms, mn] w.heap.size hW (by simp)
  have HC : Hid _ := fun W (hW : Below (w.alloc (.cells #[.int .i64 28, .string t1, .bool g1, .slice a1 b1 c1, .int .i64 s1, .int .i64 mk, .int .i64 my, .int .i64 mm, .int .i64 md, .int .i64 ms, .int .i64 mn, .bool true, .int .i64 mz, .int .i64 q1.o, .int .i64 q1.s, .int .i64 q1.n] 40)).heap.size (w.alloc (.cells #[.int .i64 28, .string t1, .bool g1, .slice a1 b1 c1, .int .i64 s1, .int .i64 mk, .int .i64 my, .int .i64 mm, .int .i64 md, .int .i64 ms, .int .i64 mn, .bool true, .int .i64 mz, .int .i64 q1.o, .int .i64 q1.s, .int .i64 q1.n] 40)) W) => (row_cell ((hW.block _ (by simp)).trans (M.nw_heap w (.cells #[.int .i64 28, .string t1, .bool g1, .slice a1 b1 c1, .int .i64 s1, .int .i64 mk, .int .i64 my, .int .i64 mm, .int .i64 md, .int .i64 ms, .int .i64 mn, .bool true, .int .i64 mz, .int .i64 q1.o, .int .i64 q1.s, .int .i64 q1.n] 40))) : W.cell? ⟨w.heap.size, 0, none⟩ = some (.int .i64 28))
  clear hI hw
  go_enter Tryz.func24, Tryz.ntmps24
  go_wp2_with (first | (at_builtin; refine wpList_append_own _ rfl _ _ 60 rfl w.heap.size 3 i0 (.int .i64 0) 1 8 Tryz.underlying60 hi hz hzs hby rfl (by decide) _ _ _ rfl (M.row_below (HN.out _ (bel1 (bel1 (Below.refl _ _) _) _).size _ (by simp)) ((Below.refl _ _).alloc (Nat.le_refl _) _)) ⟨_, 0, none⟩ 1 1 [.int .i64 mz] rfl rfl (cell_one_at _ _ _ _ (by simp)) (by simp [Value.oneCell']) (by simp [maxLen]) (by simp) (by simp; omega) ?_; intro v' w7 hown7 hgr7 _; have hb7 : Hid (Below w.heap.size w w7) := grown_bel (bel1 (bel1 (bel1 (bel1 (Below.refl w.heap.size w) _) _) _) _) hgr7 (by omega); have ho7 : Hid _ := hown7; have hx7 : w7.cell? ⟨w.heap.size, 0, none⟩ = some (.int .i64 28) := grown_cell hgr7 (by simp; omega) (by omega) (HC.out _ (bel1 (bel1 (bel1 (Below.refl _ _) _) _) _)); clear hown7 hgr7) | (go_at_call 46; refine Calls.mono (HR.out _ hb7.out _ _ ho7.out) ?_; rintro e w9 ⟨rfl, hb9⟩))
  go_ret
  exact ⟨rfl, hb9⟩
set_option maxRecDepth 100000 in
set_option maxHeartbeats 1600000 in
theorem text_m29f (t1 : ByteArray) (g1 : Bool) (a1 : Option Addr) (b1 c1 : Nat) (s1 mk my mm md ms mn mz : Int) (q1 : Dt.Sp) {w : World} (hw : Lw w) (hI : ∀ n ∈ [my, mm, md, ms, mn], I64 n) : Calls Tryz.prog 24 #[vlV 29 t1 g1 (.slice a1 b1 c1) s1 ⟨mk, my, mm, md, ms, mn, false, mz⟩ q1] w fun e w' => e = .returned (.string (rowT 29 [my, mm, md, ms, mn])) ∧ Below w.heap.size w w' := by
  obtain ⟨i0, hi, hz, hzs, hby⟩ := info_n
  have HR : Hid _ := row_own 29 [my, mm, md, ms, mn] hw (by simp) (by simp) hI
  have HN : Hid _ := fun W hW => own_new W [my, mm, md, ms, mn] w.heap.size hW (by simp)
  have HC : Hid _ := fun W (hW : Below (w.alloc (.cells #[.int .i64 29, .string t1, .bool g1, .slice a1 b1 c1, .int .i64 s1, .int .i64 mk, .int .i64 my, .int .i64 mm, .int .i64 md, .int .i64 ms, .int .i64 mn, .bool false, .int .i64 mz, .int .i64 q1.o, .int .i64 q1.s, .int .i64 q1.n] 40)).heap.size (w.alloc (.cells #[.int .i64 29, .string t1, .bool g1, .slice a1 b1 c1, .int .i64 s1, .int .i64 mk, .int .i64 my, .int .i64 mm, .int .i64 md, .int .i64 ms, .int .i64 mn, .bool false, .int .i64 mz, .int .i64 q1.o, .int .i64 q1.s, .int .i64 q1.n] 40)) W) => (row_cell ((hW.block _ (by simp)).trans (M.nw_heap w (.cells #[.int .i64 29, .string t1, .bool g1, .slice a1 b1 c1, .int .i64 s1, .int .i64 mk, .int .i64 my, .int .i64 mm, .int .i64 md, .int .i64 ms, .int .i64 mn, .bool false, .int .i64 mz, .int .i64 q1.o, .int .i64 q1.s, .int .i64 q1.n] 40))) : W.cell? ⟨w.heap.size, 0, none⟩ = some (.int .i64 29))
  clear hI hw
  go_enter Tryz.func24, Tryz.ntmps24
  go_wp2_with (go_at_call 46; refine Calls.mono (HR.out _ (bel1 (bel1 (bel1 (Below.refl _ _) _) _) _) _ _ (HN.out _ (bel1 (bel1 (Below.refl _ _) _) _).size _ (by simp))) ?_; rintro e w9 ⟨rfl, hb9⟩)
  go_ret
  exact ⟨rfl, hb9⟩
set_option maxRecDepth 100000 in
set_option maxHeartbeats 1600000 in
theorem text_m29t (t1 : ByteArray) (g1 : Bool) (a1 : Option Addr) (b1 c1 : Nat) (s1 mk my mm md ms mn mz : Int) (q1 : Dt.Sp) {w : World} (hw : Lw w) (hI : ∀ n ∈ [my, mm, md, ms, mn, mz], I64 n) : Calls Tryz.prog 24 #[vlV 29 t1 g1 (.slice a1 b1 c1) s1 ⟨mk, my, mm, md, ms, mn, true, mz⟩ q1] w fun e w' => e = .returned (.string (rowT 29 [my, mm, md, ms, mn, mz])) ∧ Below w.heap.size w w' := by
  obtain ⟨i0, hi, hz, hzs, hby⟩ := info_n
  have HR : Hid _ := row_own 29 [my, mm, md, ms, mn, mz] hw (by simp) (by simp) hI
  have HN : Hid _ := fun W hW => own_new W [my, mm, md, ms, mn] w.heap.size hW (by simp)
  have HC : Hid _ := fun W (hW : Below (w.alloc (.cells #[.int .i64 29, .string t1, .bool g1, .slice a1 b1 c1, .int .i64 s1, .int .i64 mk, .int .i64 my, .int .i64 mm, .int .i64 md, .int .i64 ms, .int .i64 mn, .bool true, .int .i64 mz, .int .i64 q1.o, .int .i64 q1.s, .int .i64 q1.n] 40)).heap.size (w.alloc (.cells #[.int .i64 29, .string t1, .bool g1, .slice a1 b1 c1, .int .i64 s1, .int .i64 mk, .int .i64 my, .int .i64 mm, .int .i64 md, .int .i64 ms, .int .i64 mn, .bool true, .int .i64 mz, .int .i64 q1.o, .int .i64 q1.s, .int .i64 q1.n] 40)) W) => (row_cell ((hW.block _ (by simp)).trans (M.nw_heap w (.cells #[.int .i64 29, .string t1, .bool g1, .slice a1 b1 c1, .int .i64 s1, .int .i64 mk, .int .i64 my, .int .i64 mm, .int .i64 md, .int .i64 ms, .int .i64 mn, .bool true, .int .i64 mz, .int .i64 q1.o, .int .i64 q1.s, .int .i64 q1.n] 40))) : W.cell? ⟨w.heap.size, 0, none⟩ = some (.int .i64 29))
  clear hI hw
  go_enter Tryz.func24, Tryz.ntmps24
  go_wp2_with (first | (at_builtin; refine wpList_append_own _ rfl _ _ 60 rfl w.heap.size 3 i0 (.int .i64 0) 1 8 Tryz.underlying60 hi hz hzs hby rfl (by decide) _ _ _ rfl (M.row_below (HN.out _ (bel1 (bel1 (Below.refl _ _) _) _).size _ (by simp)) ((Below.refl _ _).alloc (Nat.le_refl _) _)) ⟨_, 0, none⟩ 1 1 [.int .i64 mz] rfl rfl (cell_one_at _ _ _ _ (by simp)) (by simp [Value.oneCell']) (by simp [maxLen]) (by simp) (by simp; omega) ?_; intro v' w7 hown7 hgr7 _; have hb7 : Hid (Below w.heap.size w w7) := grown_bel (bel1 (bel1 (bel1 (bel1 (Below.refl w.heap.size w) _) _) _) _) hgr7 (by omega); have ho7 : Hid _ := hown7; have hx7 : w7.cell? ⟨w.heap.size, 0, none⟩ = some (.int .i64 29) := grown_cell hgr7 (by simp; omega) (by omega) (HC.out _ (bel1 (bel1 (bel1 (Below.refl _ _) _) _) _)); clear hown7 hgr7) | (go_at_call 46; refine Calls.mono (HR.out _ hb7.out _ _ ho7.out) ?_; rintro e w9 ⟨rfl, hb9⟩))
  go_ret
  exact ⟨rfl, hb9⟩
set_option maxRecDepth 100000 in
set_option maxHeartbeats 1600000 in
theorem text_m30f (t1 : ByteArray) (g1 : Bool) (a1 : Option Addr) (b1 c1 : Nat) (s1 mk my mm md ms mn mz : Int) (q1 : Dt.Sp) {w : World} (hw : Lw w) (hI : ∀ n ∈ [my, mm, md, ms, mn], I64 n) : Calls Tryz.prog 24 #[vlV 30 t1 g1 (.slice a1 b1 c1) s1 ⟨mk, my, mm, md, ms, mn, false, mz⟩ q1] w fun e w' => e = .returned (.string (rowT 30 [my, mm, md, ms, mn])) ∧ Below w.heap.size w w' := by
  obtain ⟨i0, hi, hz, hzs, hby⟩ := info_n
  have HR : Hid _ := row_own 30 [my, mm, md, ms, mn] hw (by simp) (by simp) hI
  have HN : Hid _ := fun W hW => own_new W [my, mm, md, ms, mn] w.heap.size hW (by simp)
  have HC : Hid _ := fun W (hW : Below (w.alloc (.cells #[.int .i64 30, .string t1, .bool g1, .slice a1 b1 c1, .int .i64 s1, .int .i64 mk, .int .i64 my, .int .i64 mm, .int .i64 md, .int .i64 ms, .int .i64 mn, .bool false, .int .i64 mz, .int .i64 q1.o, .int .i64 q1.s, .int .i64 q1.n] 40)).heap.size (w.alloc (.cells #[.int .i64 30, .string t1, .bool g1, .slice a1 b1 c1, .int .i64 s1, .int .i64 mk, .int .i64 my, .int .i64 mm, .int .i64 md, .int .i64 ms, .int .i64 mn, .bool false, .int .i64 mz, .int .i64 q1.o, .int .i64 q1.s, .int .i64 q1.n] 40)) W) => (row_cell ((hW.block _ (by simp)).trans (M.nw_heap w (.cells #[.int .i64 30, .string t1, .bool g1, .slice a1 b1 c1, .int .i64 s1, .int .i64 mk, .int .i64 my, .int .i64 mm, .int .i64 md, .int .i64 ms, .int .i64 mn, .bool false, .int .i64 mz, .int .i64 q1.o, .int .i64 q1.s, .int .i64 q1.n] 40))) : W.cell? ⟨w.heap.size, 0, none⟩ = some (.int .i64 30))
  clear hI hw
  go_enter Tryz.func24, Tryz.ntmps24
  go_wp2_with (go_at_call 46; refine Calls.mono (HR.out _ (bel1 (bel1 (bel1 (Below.refl _ _) _) _) _) _ _ (HN.out _ (bel1 (bel1 (Below.refl _ _) _) _).size _ (by simp))) ?_; rintro e w9 ⟨rfl, hb9⟩)
  go_ret
  exact ⟨rfl, hb9⟩
set_option maxRecDepth 100000 in
set_option maxHeartbeats 1600000 in
theorem text_m30t (t1 : ByteArray) (g1 : Bool) (a1 : Option Addr) (b1 c1 : Nat) (s1 mk my mm md ms mn mz : Int) (q1 : Dt.Sp) {w : World} (hw : Lw w) (hI : ∀ n ∈ [my, mm, md, ms, mn, mz], I64 n) : Calls Tryz.prog 24 #[vlV 30 t1 g1 (.slice a1 b1 c1) s1 ⟨mk, my, mm, md, ms, mn, true, mz⟩ q1] w fun e w' => e = .returned (.string (rowT 30 [my, mm, md, ms, mn, mz])) ∧ Below w.heap.size w w' := by
  obtain ⟨i0, hi, hz, hzs, hby⟩ := info_n
  have HR : Hid _ := row_own 30 [my, mm, md, ms, mn, mz] hw (by simp) (by simp) hI
  have HN : Hid _ := fun W hW => own_new W [my, mm, md, ms, mn] w.heap.size hW (by simp)
  have HC : Hid _ := fun W (hW : Below (w.alloc (.cells #[.int .i64 30, .string t1, .bool g1, .slice a1 b1 c1, .int .i64 s1, .int .i64 mk, .int .i64 my, .int .i64 mm, .int .i64 md, .int .i64 ms, .int .i64 mn, .bool true, .int .i64 mz, .int .i64 q1.o, .int .i64 q1.s, .int .i64 q1.n] 40)).heap.size (w.alloc (.cells #[.int .i64 30, .string t1, .bool g1, .slice a1 b1 c1, .int .i64 s1, .int .i64 mk, .int .i64 my, .int .i64 mm, .int .i64 md, .int .i64 ms, .int .i64 mn, .bool true, .int .i64 mz, .int .i64 q1.o, .int .i64 q1.s, .int .i64 q1.n] 40)) W) => (row_cell ((hW.block _ (by simp)).trans (M.nw_heap w (.cells #[.int .i64 30, .string t1, .bool g1, .slice a1 b1 c1, .int .i64 s1, .int .i64 mk, .int .i64 my, .int .i64 mm, .int .i64 md, .int .i64 ms, .int .i64 mn, .bool true, .int .i64 mz, .int .i64 q1.o, .int .i64 q1.s, .int .i64 q1.n] 40))) : W.cell? ⟨w.heap.size, 0, none⟩ = some (.int .i64 30))
  clear hI hw
  go_enter Tryz.func24, Tryz.ntmps24
  go_wp2_with (first | (at_builtin; refine wpList_append_own _ rfl _ _ 60 rfl w.heap.size 3 i0 (.int .i64 0) 1 8 Tryz.underlying60 hi hz hzs hby rfl (by decide) _ _ _ rfl (M.row_below (HN.out _ (bel1 (bel1 (Below.refl _ _) _) _).size _ (by simp)) ((Below.refl _ _).alloc (Nat.le_refl _) _)) ⟨_, 0, none⟩ 1 1 [.int .i64 mz] rfl rfl (cell_one_at _ _ _ _ (by simp)) (by simp [Value.oneCell']) (by simp [maxLen]) (by simp) (by simp; omega) ?_; intro v' w7 hown7 hgr7 _; have hb7 : Hid (Below w.heap.size w w7) := grown_bel (bel1 (bel1 (bel1 (bel1 (Below.refl w.heap.size w) _) _) _) _) hgr7 (by omega); have ho7 : Hid _ := hown7; have hx7 : w7.cell? ⟨w.heap.size, 0, none⟩ = some (.int .i64 30) := grown_cell hgr7 (by simp; omega) (by omega) (HC.out _ (bel1 (bel1 (bel1 (Below.refl _ _) _) _) _)); clear hown7 hgr7) | (go_at_call 46; refine Calls.mono (HR.out _ hb7.out _ _ ho7.out) ?_; rintro e w9 ⟨rfl, hb9⟩))
  go_ret
  exact ⟨rfl, hb9⟩
set_option maxRecDepth 100000 in
set_option maxHeartbeats 1600000 in
theorem text_m31f (t1 : ByteArray) (g1 : Bool) (a1 : Option Addr) (b1 c1 : Nat) (s1 mk my mm md ms mn mz : Int) (q1 : Dt.Sp) {w : World} (hw : Lw w) (hI : ∀ n ∈ [my, mm, md, ms, mn], I64 n) : Calls Tryz.prog 24 #[vlV 31 t1 g1 (.slice a1 b1 c1) s1 ⟨mk, my, mm, md, ms, mn, false, mz⟩ q1] w fun e w' => e = .returned (.string (rowT 31 [my, mm, md, ms, mn])) ∧ Below w.heap.size w w' := by
  obtain ⟨i0, hi, hz, hzs, hby⟩ := info_n
  have HR : Hid _ := row_own 31 [my, mm, md, ms, mn] hw (by simp) (by simp) hI
  have HN : Hid _ := fun W hW => own_new W [my, mm, md, ms, mn] w.heap.size hW (by simp)
  have HC : Hid _ := fun W (hW : Below (w.alloc (.cells #[.int .i64 31, .string t1, .bool g1, .slice a1 b1 c1, .int .i64 s1, .int .i64 mk, .int .i64 my, .int .i64 mm, .int .i64 md, .int .i64 ms, .int .i64 mn, .bool false, .int .i64 mz, .int .i64 q1.o, .int .i64 q1.s, .int .i64 q1.n] 40)).heap.size (w.alloc (.cells #[.int .i64 31, .string t1, .bool g1, .slice a1 b1 c1, .int .i64 s1, .int .i64 mk, .int .i64 my, .int .i64 mm, .int .i64 md, .int .i64 ms, .int .i64 mn, .bool false, .int .i64 mz, .int .i64 q1.o, .int .i64 q1.s, .int .i64 q1.n] 40)) W) => (row_cell ((hW.block _ (by simp)).trans (M.nw_heap w (.cells #[.int .i64 31, .string t1, .bool g1, .slice a1 b1 c1, .int .i64 s1, .int .i64 mk, .int .i64 my, .int .i64 mm, .int .i64 md, .int .i64 ms, .int .i64 mn, .bool false, .int .i64 mz, .int .i64 q1.o, .int .i64 q1.s, .int .i64 q1.n] 40))) : W.cell? ⟨w.heap.size, 0, none⟩ = some (.int .i64 31))
  clear hI hw
  go_enter Tryz.func24, Tryz.ntmps24
  go_wp2_with (go_at_call 46; refine Calls.mono (HR.out _ (bel1 (bel1 (bel1 (Below.refl _ _) _) _) _) _ _ (HN.out _ (bel1 (bel1 (Below.refl _ _) _) _).size _ (by simp))) ?_; rintro e w9 ⟨rfl, hb9⟩)
  go_ret
  exact ⟨rfl, hb9⟩
set_option maxRecDepth 100000 in
set_option maxHeartbeats 1600000 in
theorem text_m31t (t1 : ByteArray) (g1 : Bool) (a1 : Option Addr) (b1 c1 : Nat) (s1 mk my mm md ms mn mz : Int) (q1 : Dt.Sp) {w : World} (hw : Lw w) (hI : ∀ n ∈ [my, mm, md, ms, mn, mz], I64 n) : Calls Tryz.prog 24 #[vlV 31 t1 g1 (.slice a1 b1 c1) s1 ⟨mk, my, mm, md, ms, mn, true, mz⟩ q1] w fun e w' => e = .returned (.string (rowT 31 [my, mm, md, ms, mn, mz])) ∧ Below w.heap.size w w' := by
  obtain ⟨i0, hi, hz, hzs, hby⟩ := info_n
  have HR : Hid _ := row_own 31 [my, mm, md, ms, mn, mz] hw (by simp) (by simp) hI
  have HN : Hid _ := fun W hW => own_new W [my, mm, md, ms, mn] w.heap.size hW (by simp)
  have HC : Hid _ := fun W (hW : Below (w.alloc (.cells #[.int .i64 31, .string t1, .bool g1, .slice a1 b1 c1, .int .i64 s1, .int .i64 mk, .int .i64 my, .int .i64 mm, .int .i64 md, .int .i64 ms, .int .i64 mn, .bool true, .int .i64 mz, .int .i64 q1.o, .int .i64 q1.s, .int .i64 q1.n] 40)).heap.size (w.alloc (.cells #[.int .i64 31, .string t1, .bool g1, .slice a1 b1 c1, .int .i64 s1, .int .i64 mk, .int .i64 my, .int .i64 mm, .int .i64 md, .int .i64 ms, .int .i64 mn, .bool true, .int .i64 mz, .int .i64 q1.o, .int .i64 q1.s, .int .i64 q1.n] 40)) W) => (row_cell ((hW.block _ (by simp)).trans (M.nw_heap w (.cells #[.int .i64 31, .string t1, .bool g1, .slice a1 b1 c1, .int .i64 s1, .int .i64 mk, .int .i64 my, .int .i64 mm, .int .i64 md, .int .i64 ms, .int .i64 mn, .bool true, .int .i64 mz, .int .i64 q1.o, .int .i64 q1.s, .int .i64 q1.n] 40))) : W.cell? ⟨w.heap.size, 0, none⟩ = some (.int .i64 31))
  clear hI hw
  go_enter Tryz.func24, Tryz.ntmps24
  go_wp2_with (first | (at_builtin; refine wpList_append_own _ rfl _ _ 60 rfl w.heap.size 3 i0 (.int .i64 0) 1 8 Tryz.underlying60 hi hz hzs hby rfl (by decide) _ _ _ rfl (M.row_below (HN.out _ (bel1 (bel1 (Below.refl _ _) _) _).size _ (by simp)) ((Below.refl _ _).alloc (Nat.le_refl _) _)) ⟨_, 0, none⟩ 1 1 [.int .i64 mz] rfl rfl (cell_one_at _ _ _ _ (by simp)) (by simp [Value.oneCell']) (by simp [maxLen]) (by simp) (by simp; omega) ?_; intro v' w7 hown7 hgr7 _; have hb7 : Hid (Below w.heap.size w w7) := grown_bel (bel1 (bel1 (bel1 (bel1 (Below.refl w.heap.size w) _) _) _) _) hgr7 (by omega); have ho7 : Hid _ := hown7; have hx7 : w7.cell? ⟨w.heap.size, 0, none⟩ = some (.int .i64 31) := grown_cell hgr7 (by simp; omega) (by omega) (HC.out _ (bel1 (bel1 (bel1 (Below.refl _ _) _) _) _)); clear hown7 hgr7) | (go_at_call 46; refine Calls.mono (HR.out _ hb7.out _ _ ho7.out) ?_; rintro e w9 ⟨rfl, hb9⟩))
  go_ret
  exact ⟨rfl, hb9⟩
theorem text_a {w : World} {v : Value} {d : Kd} (hw : Lw w) (h : VlA w v d) (o1 : KdOk d) : Calls Tryz.prog 24 #[v] w fun e w' => e = .returned (.string (txK d)) ∧ Below w.heap.size w w' := by
  obtain ⟨a, c, rfl, hb⟩ := h
  cases d with
  | txt p t => exact textT p o1 t _ _ _ _ _ _ _ w
  | num n => exact textN ⟨#[]⟩ _ _ ⟨hb, o1.1, o1.2⟩
  | spn q => exact text_spn _ _ _ _ _ _ _ _ hw o1
  | mom k m =>
    obtain ⟨h0, h1, hl⟩ := o1
    obtain ⟨i1, i2, i3, i4, i5, i6⟩ := mo_I hl
    obtain ⟨mk, my, mm, md, ms, mn, mh, mz⟩ := m
    cases mh with
    | false =>
      have hI : ∀ n ∈ [my, mm, md, ms, mn], I64 n := by
        intro n hn
        simp only [List.mem_cons, List.not_mem_nil, or_false] at hn
        rcases hn with rfl | rfl | rfl | rfl | rfl <;> assumption
      rcases (by omega : k = 24 ∨ k = 25 ∨ k = 26 ∨ k = 27 ∨ k = 28 ∨ k = 29 ∨ k = 30 ∨ k = 31) with rfl | rfl | rfl | rfl | rfl | rfl | rfl | rfl
      · exact text_m24f _ _ _ _ _ _ _ _ _ _ _ _ _ _ hw hI
      · exact text_m25f _ _ _ _ _ _ _ _ _ _ _ _ _ _ hw hI
      · exact text_m26f _ _ _ _ _ _ _ _ _ _ _ _ _ _ hw hI
      · exact text_m27f _ _ _ _ _ _ _ _ _ _ _ _ _ _ hw hI
      · exact text_m28f _ _ _ _ _ _ _ _ _ _ _ _ _ _ hw hI
      · exact text_m29f _ _ _ _ _ _ _ _ _ _ _ _ _ _ hw hI
      · exact text_m30f _ _ _ _ _ _ _ _ _ _ _ _ _ _ hw hI
      · exact text_m31f _ _ _ _ _ _ _ _ _ _ _ _ _ _ hw hI
    | true =>
      have hI : ∀ n ∈ [my, mm, md, ms, mn, mz], I64 n := by
        intro n hn
        simp only [List.mem_cons, List.not_mem_nil, or_false] at hn
        rcases hn with rfl | rfl | rfl | rfl | rfl | rfl <;> assumption
      rcases (by omega : k = 24 ∨ k = 25 ∨ k = 26 ∨ k = 27 ∨ k = 28 ∨ k = 29 ∨ k = 30 ∨ k = 31) with rfl | rfl | rfl | rfl | rfl | rfl | rfl | rfl
      · exact text_m24t _ _ _ _ _ _ _ _ _ _ _ _ _ _ hw hI
      · exact text_m25t _ _ _ _ _ _ _ _ _ _ _ _ _ _ hw hI
      · exact text_m26t _ _ _ _ _ _ _ _ _ _ _ _ _ _ hw hI
      · exact text_m27t _ _ _ _ _ _ _ _ _ _ _ _ _ _ hw hI
      · exact text_m28t _ _ _ _ _ _ _ _ _ _ _ _ _ _ hw hI
      · exact text_m29t _ _ _ _ _ _ _ _ _ _ _ _ _ _ hw hI
      · exact text_m30t _ _ _ _ _ _ _ _ _ _ _ _ _ _ hw hI
      · exact text_m31t _ _ _ _ _ _ _ _ _ _ _ _ _ _ hw hI
end Go.Proofs.YtgaegajcejpmdaaGreatDoor
