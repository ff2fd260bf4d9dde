/- The contracts of Fault, narrower, narrowed, Clone, New. -/
import Derived.Test.YtjcgnbmpnaapdaaDoorQ14
import Derived.Deep.RegionHeld3
import Derived.OwnWalk
namespace Go.Proofs.YtjcgnbmpnaapdaaDoor
open Go.RowKit
set_option linter.unusedVariables false

theorem fault_s {P : Nat} {w : World} {v : PV} (h : PS w P v) : Calls Tryd.prog 25 #[pp P] w fun e w' => e = .returned (.tuple #[.int .i64 v.fat, .int .i64 v.ferr]) ∧ ∃ m, w' = w.drewN m := by
  have c18 : w.cell? ⟨P, 18, none⟩ = some (.int .i64 v.fat) := h.cell 18
  have c19 : w.cell? ⟨P, 19, none⟩ = some (.int .i64 v.ferr) := h.cell 19
  clear h
  go_enter Tryd.func25, Tryd.ntmps25
  go_wp2
  go_quiet (fail)
  go_wp2
  go_ret2
  exact ⟨rfl, _, rfl⟩
theorem narrower_s (a b : Int) (w : World) : Calls Tryd.prog 34 #[.int .i64 a, .int .i64 b] w fun e w' => e = .returned (.int .i64 (narS a b)) ∧ w' = w := by
  by_cases h : a ≤ 0
  · have e : narS a b = b := by unfold narS; rw [if_pos h]
    rw [e]
    go_enter Tryd.func34, Tryd.ntmps34
    go_wp2
    go_ret
    exact ⟨rfl, rfl⟩
  · by_cases h2 : a ≤ b
    · have e : narS a b = a := by unfold narS; rw [if_neg h]; omega
      rw [e]
      go_enter Tryd.func34, Tryd.ntmps34
      go_wp2
      all_goals
        go_ret
        exact ⟨ret_int (by omega), rfl⟩
    · have e : narS a b = b := by unfold narS; rw [if_neg h]; omega
      rw [e]
      go_enter Tryd.func34, Tryd.ntmps34
      go_wp2
      all_goals
        go_ret
        exact ⟨ret_int (by omega), rfl⟩
abbrev limV (d n a t p r : Int) : Value := .agg #[.int .i64 d, .int .i64 n, .int .i64 a, .int .i64 t, .int .i64 p, .int .i64 r]
set_option maxHeartbeats 3200000 in
theorem narrowed_s (d n a t p r : Int) (w : World) : Calls Tryd.prog 28 #[limV d n a t p r] w fun e w' => e = .returned (limV (narS d 64) (narS n 4096) (narS a 64) (narS t 4096) 0 0) ∧ Below w.heap.size w w' := by
  go_enter Tryd.func28, Tryd.ntmps28
  go_wp2_with fail
  go_region_held3 (fun W => W.cell? ⟨w.heap.size, 0, none⟩ = some (.int .i64 d) ∧ W.cell? ⟨w.heap.size, 1, none⟩ = some (.int .i64 n) ∧ W.cell? ⟨w.heap.size, 2, none⟩ = some (.int .i64 a) ∧ W.cell? ⟨w.heap.size, 3, none⟩ = some (.int .i64 t)) (go_keep) (first | (go_at_call 34; refine (narrower_s _ _ _).mono ?_; rintro e w' ⟨rfl, rfl⟩))
  go_wp2
  exact bodyPost_ret (v := limV (narS d 64) (narS n 4096) (narS a 64) (narS t 4096) 0 0) (by simp [results, Tryd.results28, go_sem]) rfl ⟨rfl, ((((Below.refl _ _).alloc (Nat.le_refl _) _).alloc (by simp) _)).drew⟩
set_option maxRecDepth 100000 in
theorem clone_nil (w : World) : Calls Tryd.prog 29 #[.slice none 0 0] w fun e w' => e = .returned (.slice none 0 0) ∧ w' = w := by
  have he : ∀ w : World, (binOp .eql 25 (.slice none 0 0) (.slice none 0 0)).run Tryd.prog w = .ok (.bool true) w := fun _ => rfl
  go_enter Tryd.func29, Tryd.ntmps29
  go_wp2
  go_ret
  exact ⟨rfl, rfl⟩
set_option maxRecDepth 100000 in
theorem clone_any (A : Addr) (n c : Nat) (bs : Bs) (w : World) (hn : bs.length = n) (hbytes : n ≤ 65536) (hc : ∀ j u, (bs.map (Value.int .u8))[j]? = some u → w.cell? (A.add j) = some u) :
    Calls Tryd.prog 29 #[.slice (some A) n c] w fun e w' => ∃ v, e = .returned v ∧ w'.ownsRow w.heap.size 5 1 v n (bs.map (Value.int .u8)) ∧ Below w.heap.size w w' ∧ v ≠ .slice none 0 0 := by
  obtain ⟨i0, hi, hz0, hz1, hz2⟩ := info5p
  have hown0 : (w.alloc (.cells #[] 5)).ownsRow w.heap.size 5 1 (.slice (some ⟨w.heap.size, 0, none⟩) 0 0) 0 [] :=
    ⟨rfl, .inr ⟨w.heap.size, 0, #[], rfl, Nat.le_refl _, by show (w.heap.push _)[w.heap.size]? = _; simp, Nat.le_refl _, by unfold maxLen; omega, rfl, rfl⟩⟩
  have he : ∀ w : World, (binOp .eql 25 (.slice (some A) n c) (.slice none 0 0)).run Tryd.prog w = .ok (.bool false) w := fun _ => rfl
  have hc1 : ∀ j u, (bs.map (Value.int .u8))[j]? = some u → (w.alloc (.cells #[] 5)).cell? (A.add j) = some u := by
    intro j u hu
    exact blk_cell ((Below.refl w.heap.size w).alloc (Nat.le_refl _) _) (hc j u hu)
  have HC : Hid _ := hc1
  clear hc hc1
  go_enter Tryd.func29, Tryd.ntmps29
  go_wp2_with (first
    | (at_builtin; refine wpList_append_own _ rfl (.tmp 5) (.tmp 6) 25 rfl w.heap.size 5 i0 (.int .u8 0) 1 1 Tryd.underlying25 hi hz0 hz1 hz2 rfl (by decide) _ _ _ rfl hown0 A n c (bs.map (Value.int .u8)) rfl (by simp [hn]) HC.out u8_cells (by unfold maxLen; omega) (by omega) (by simp) ?_; intro v' w1 hown' hgrow hnil; have HO : Hid _ := And.intro hown' (And.intro hgrow hnil); clear hown' hgrow hnil))
  go_ret
  obtain ⟨hown', hgrow, hnil⟩ := HO.out
  refine ⟨_, rfl, by simpa using hown', ((Below.refl _ _).alloc (Nat.le_refl _) _).grown hgrow (by simp) (fun k hk => ?_), fun h => ?_⟩
  · simp [Act.eval, Value.ownBlock, go_sem] at hk
    omega
  · have := (hnil.1 h).1
    simp [Act.eval, go_sem] at this
end Go.Proofs.YtjcgnbmpnaapdaaDoor
namespace Go.Proofs.YtjcgnbmpnaapdaaDoor
open Go.RowKit
set_option linter.unusedVariables false

/-- A slice of bytes that the caller holds. -/
structure BI (w : World) (vb : Value) (l : Bs) : Prop where
  fm : (vb = .slice none 0 0 ∧ l = []) ∨ ∃ A c, vb = .slice (some A) l.length c ∧ ∀ j u, (l.map (Value.int .u8))[j]? = some u → w.cell? (A.add j) = some u
  bd : ∀ i, 0 ≤ l.getD i 0 ∧ l.getD i 0 < 256
  mx : l.length ≤ maxLen
theorem BI.below {w w' : World} {vb : Value} {l : Bs} (h : BI w vb l) (hb : Below w.heap.size w w') : BI w' vb l := by
  refine ⟨?_, h.bd, h.mx⟩
  rcases h.fm with h0 | ⟨A, c, e, hc⟩
  · exact .inl h0
  · exact .inr ⟨A, c, e, fun j u hu => blk_cell hb (hc j u hu)⟩
theorem own_zero {w : World} {B n size : Nat} {e : TypeId} {v : Value} {xs : List Value} (h : w.ownsRow B e size v n xs) : w.ownsRow 0 e size v n xs := by
  refine ⟨h.1, ?_⟩
  rcases h.2 with h0 | ⟨g, cap, cur, hv, hb, r⟩
  · exact .inl h0
  · exact .inr ⟨g, cap, cur, hv, Nat.zero_le _, r⟩
/-- The copy of a slice of bytes. -/
theorem clone_bi {w : World} {vb : Value} {l : Bs} (h : BI w vb l) (hl : l.length ≤ 65536) :
    Calls Tryd.prog 29 #[vb] w fun e w' => ∃ v, e = .returned v ∧ BR w' v l ∧ Below w.heap.size w w' ∧ (∀ k, v.ownBlock = some k → w.heap.size ≤ k) ∧ ∃ a c, v = .slice a l.length c := by
  rcases h.fm with ⟨rfl, rfl⟩ | ⟨A, c, rfl, hc⟩
  · refine (clone_nil w).mono ?_
    rintro e w' ⟨rfl, rfl⟩
    exact ⟨_, rfl, ⟨⟨rfl, .inl ⟨rfl, rfl⟩⟩, h.bd⟩, Below.refl _ _, fun k hk => by simp [Value.ownBlock] at hk, none, 0, rfl⟩
  · refine (clone_any A l.length c l w rfl hl hc).mono ?_
    rintro e w' ⟨v, rfl, ho, hb, hn⟩
    refine ⟨v, rfl, ⟨own_zero ho, h.bd⟩, hb, ?_, ?_⟩
    · rcases ho.2 with ⟨rfl, _⟩ | ⟨g, cap, cur, rfl, hg, _⟩
      · intro k hk; simp [Value.ownBlock] at hk
      · intro k hk; simp [Value.ownBlock] at hk; omega
    · rcases ho.2 with ⟨rfl, h0⟩ | ⟨g, cap, cur, rfl, hg, _⟩
      · exact ⟨none, 0, by rw [h0]⟩
      · exact ⟨_, cap, rfl⟩
abbrev pv0 (vb : Value) (d n a t : Int) : PV := ⟨vb, 0, false, narS d 64, narS n 4096, narS a 64, narS t 4096, 0, 0, .slice none 0 0, 0, false, 0, .slice none 0 0, .slice none 0 0, 0, 0, false, 0, 0⟩
theorem nar_b (a b : Int) (h : 1 ≤ b) : 1 ≤ narS a b ∧ narS a b ≤ b := by unfold narS; split <;> omega
theorem full_new {w2 : World} {P : Nat} {vb : Value} {l : Bs} (d n a t : Int) (hp : PS w2 P (pv0 vb d n a t)) (hb : BR w2 vb l) (hl : l.length ≤ 65536) : Full w2.heap.size P w2 (pv0 vb d n a t) l (limS d n a t) s0 := by
  refine ⟨⟨hp, hb, rfl, Nat.zero_le _, hl⟩, hp.lt, ?_, Nat.le_refl _, rfl, rfl, rfl, rfl, nar_b _ _ (by omega), nar_b _ _ (by omega), nar_b _ _ (by omega), rfl, ⟨rfl, .inl ⟨rfl, rfl⟩⟩, ?_, rfl, rfl, rfl, ⟨rfl, .inl ⟨rfl, rfl⟩⟩, ?_, ?_, ⟨[], .inl ⟨rfl, rfl, rfl⟩, rfl⟩, by simp [s0], rfl, rfl, rfl, nar_b _ _ (by omega), ?_, ?_⟩
  · intro g hg
    rcases hb.1.2 with ⟨rfl, _⟩ | ⟨g', cap, cur, rfl, _, hh, _⟩
    · simp [Value.ownBlock] at hg
    · simp [Value.ownBlock] at hg
      subst hg
      exact (Array.getElem?_eq_some_iff.1 hh).1
  · have := (nar_b d 64 (by omega)).1
    simp [s0, limS]
    omega
  · intro i; simp [s0]
  · have := (nar_b t 4096 (by omega)).1
    simp [s0, limS]
    omega
  · have := (nar_b n 4096 (by omega)).1
    simp [s0, limS]
    omega
  · intro n hn; simp [s0] at hn
set_option maxHeartbeats 3200000 in
theorem new_any {w : World} {vb : Value} {l : Bs} (d n a t p r : Int) (h : BI w vb l) (hl : l.length ≤ 65536) :
    Calls Tryd.prog 23 #[vb, limV d n a t p r] w fun e w' => ∃ P v, e = .returned (pp P) ∧ w.heap.size ≤ P ∧ Below w.heap.size w w' ∧ Full w'.heap.size P w' v l (limS d n a t) s0 := by
  obtain ⟨sa, sc, hv⟩ : ∃ sa sc, vb = .slice sa l.length sc := by
    rcases h.fm with ⟨rfl, rfl⟩ | ⟨A, c, rfl, _⟩
    · exact ⟨none, 0, rfl⟩
    · exact ⟨_, c, rfl⟩
  have HB : Hid _ := h
  clear h
  subst hv
  go_enter Tryd.func23, Tryd.ntmps23
  go_wp2_with (first
    | (go_at_call 28; refine (narrowed_s d n a t p r _).mono ?_; rintro e w1 ⟨rfl, hb1⟩; have HB1 : Hid _ := hb1; have HSZ1 : Hid (w.heap.size ≤ w1.heap.size) := (by have := hb1.size; simp at this; omega : w.heap.size ≤ w1.heap.size); clear hb1)
    | (go_at_call 29; refine (clone_bi (HB.out.below (((Below.refl _ _).alloc (Nat.le_refl _) _).trans (HB1.out.mono (by simp)) |>.alloc HSZ1.out _)) hl).mono ?_; rintro e w2 ⟨v2, rfl, br2, hb2, hv2, a2, c2, hone⟩; subst hone; have hps : PS w2 w1.heap.size (pv0 (.slice none 0 0) d n a t) := ((hb2.block _ (by simp)).trans (heap_alloc_new w1 _)); have c0 := hps.cell 0; have f0 := hps.froz 0; simp [PV.cells] at c0; have HP : Hid _ := And.intro hps (And.intro br2 (And.intro hb2 hv2)); clear hps br2 hb2 hv2))
  go_ret
  have hps2 : PS (w2.setCell ⟨w1.heap.size, 0, none⟩ (.slice a2 l.length c2)) w1.heap.size (pv0 (.slice a2 l.length c2) d n a t) := HP.out.1.set 0 _ rfl
  have hbA : Below w.heap.size w w1 := ((Below.refl _ _).alloc (Nat.le_refl _) _).trans (HB1.out.mono (by simp))
  have hbB : Below w.heap.size w w2 := (hbA.alloc HSZ1.out _).trans (HP.out.2.2.1.mono (by have := HSZ1.out; simp; omega))
  exact ⟨w1.heap.size, pv0 (.slice a2 l.length c2) d n a t, rfl, HSZ1.out, hbB.setCell HSZ1.out _, full_new d n a t hps2 (HP.out.2.1.kept HP.out.1 (grownBy_set _ _ _ _)) hl⟩
/-- A parser whose document is too long. -/
abbrev pvL (d n a t : Int) : PV := { pv0 (.slice none 0 0) d n a t with long := true }
set_option maxHeartbeats 3200000 in
theorem new_long {w : World} {vb : Value} {l : Bs} (d n a t p r : Int) (h : BI w vb l) (hl : 65536 < l.length) :
    Calls Tryd.prog 23 #[vb, limV d n a t p r] w fun e w' => ∃ P, e = .returned (pp P) ∧ w.heap.size ≤ P ∧ Below w.heap.size w w' ∧ PS w' P (pvL d n a t) := by
  obtain ⟨sa, sc, hv⟩ : ∃ sa sc, vb = .slice sa l.length sc := by
    rcases h.fm with ⟨rfl, rfl⟩ | ⟨A, c, rfl, _⟩
    · exact ⟨none, 0, rfl⟩
    · exact ⟨_, c, rfl⟩
  have HB : Hid _ := h
  clear h
  subst hv
  go_enter Tryd.func23, Tryd.ntmps23
  go_wp2_with (first
    | (go_at_call 28; refine (narrowed_s d n a t p r _).mono ?_; rintro e w1 ⟨rfl, hb1⟩; have HB1 : Hid _ := hb1; have HSZ1 : Hid (w.heap.size ≤ w1.heap.size) := (by have := hb1.size; simp at this; omega : w.heap.size ≤ w1.heap.size); clear hb1))
  go_ret
  have hbA : Below w.heap.size w w1 := ((Below.refl _ _).alloc (Nat.le_refl _) _).trans (HB1.out.mono (by simp))
  exact ⟨w1.heap.size, rfl, HSZ1.out, hbA.alloc HSZ1.out _, heap_alloc_new w1 _⟩
end Go.Proofs.YtjcgnbmpnaapdaaDoor
namespace Go.Proofs.YtjcgnbmpnaapdaaDoor
open Go.RowKit
set_option linter.unusedVariables false

theorem read_long {P : Nat} {w : World} {v : PV} (h : PS w P v) (hl : v.long = true) : Calls Tryd.prog 31 #[pp P] w fun e w' => e = .panicked (flt 0 3) ∧ w' = w := by
  have c2 : w.cell? ⟨P, 2, none⟩ = some (.bool true) := (h.cell 2).trans (by rw [← hl]; rfl)
  go_enter Tryd.func31, Tryd.ntmps31
  go_wp2_with (first | (go_at_call 35; refine (many_any P 0 _).mono ?_; rintro e w' ⟨rfl, rfl⟩))
  all_goals exact ⟨rfl, rfl, rfl⟩
set_option maxHeartbeats 3200000 in
theorem next_long {P : Nat} {w : World} {v : PV} (h : PS w P v) (hl : v.long = true) (hr : v.ready = .slice none 0 0) (ho : v.over = false) :
    Calls Tryd.prog 24 #[pp P] w fun r w' => r = .returned (.tuple #[.agg zEv, .bool false]) ∧ ∃ v', PS w' P v' ∧ v'.fat = 0 ∧ v'.ferr = 3 ∧ Fr P w w' v v' := by
  have hmf : ∀ (fn : Fn) (first cap : Array Value) (w : World), (Instr.makeFunc fn first cap).run Tryd.prog w = .ok (.func fn first cap) w := fun _ _ _ _ => rfl
  have hPN : P < w.heap.size := h.lt
  have hb3 : Below w.heap.size w (w3a w P) := (((Below.refl _ _).alloc (Nat.le_refl _) _).alloc (by simp) _).alloc (by simp; omega) _
  have hO := own_new w P
  have hp3 : PS (w3a w P) P v := (hb3.block P hPN).trans h
  have HB3 : Hid _ := hb3
  have HO : Hid _ := And.intro hO hp3
  clear hO hb3 hp3 h
  go_enter_defers Tryd.func24, Tryd.ntmps24
  go_wp2_with fail
  go_loopg [] 1 (fun n wr => Own P w.heap.size wr ∧ PS wr P v ∧ Hid (wr = w3a w P))
  case atStart => exact ⟨HO.out.1, HO.out.2, rfl⟩
  case round =>
    obtain ⟨hO, hp, HW⟩ := hrel
    have cA : wr.cell? ⟨w.heap.size, 0, none⟩ = some (pp P) := Bk.cell (i := 0) hO.a
    have c14 : wr.cell? ⟨P, 14, none⟩ = some (.slice none 0 0) := (hp.cell 14).trans (by rw [← hr]; rfl)
    have c17 : wr.cell? ⟨P, 17, none⟩ = some (.bool false) := (hp.cell 17).trans (by rw [← ho]; rfl)
    have HFu : Hid _ := And.intro hO hp
    have HL : Hid _ := And.intro hl (And.intro hr ho)
    clear hO hp hl hr ho
    go_wp2_with (first | (go_at_call 31; refine (read_long HFu.out.2 HL.out.1).mono ?_; rintro e w5 ⟨rfl, rfl⟩))
    refine leaves_cons (f := 30) (args := #[.pointer (some ⟨w.heap.size, 0, none⟩), .pointer (some ⟨w.heap.size + 1, 0, none⟩), .pointer (some ⟨w.heap.size + 1 + 1, 0, none⟩)]) (by simp) (by simp [go_sem]) ?_
    have hO5 := HFu.out.1
    refine (catch_panic (A := w.heap.size) (E := w.heap.size + 1) (K := w.heap.size + 1 + 1) (P := P) (v := v) cA HFu.out.2 hO5.e hO5.k (by omega) (by omega) (by omega) (by omega) (by omega) (by omega)).mono ?_
    rintro e u' w6 ⟨rfl, rfl, hC⟩
    have q0 : w6.cell? ⟨w.heap.size + 1, 0, none⟩ = some (.int .i64 0) := Bk.cell (i := 0) hC.e
    have q1 : w6.cell? ⟨w.heap.size + 1, 1, none⟩ = some (.int .i64 0) := Bk.cell (i := 1) hC.e
    have q2 : w6.cell? ⟨w.heap.size + 1, 2, none⟩ = some (.string ⟨#[]⟩) := Bk.cell (i := 2) hC.e
    have q3 : w6.cell? ⟨w.heap.size + 1, 3, none⟩ = some (.string ⟨#[]⟩) := Bk.cell (i := 3) hC.e
    have q4 : w6.cell? ⟨w.heap.size + 1, 4, none⟩ = some (.slice none 0 0) := Bk.cell (i := 4) hC.e
    have qk : w6.cell? ⟨w.heap.size + 1 + 1, 0, none⟩ = some (.bool false) := Bk.cell (i := 0) hC.k
    have hff : Fr P (w3a w P) w5 v v := by rw [← HW.out]; exact Fr.refl _ _ _
    have hfin : ∃ v', PS w6 P v' ∧ v'.fat = 0 ∧ v'.ferr = 3 ∧ Fr P w w6 v v' :=
      ⟨_, hC.ps, rfl, rfl, Fr.cw HB3.out hff ⟨hC.ps, hC.e, hC.k, hC.os, hC.tape, hC.output, hC.size, hC.blk⟩ rfl (by omega) (by omega) rfl rfl rfl⟩
    have HFIN : Hid _ := hfin
    simp [Leaves, settle, results, Tryd.results24, go_sem, q0, q1, q2, q3, q4, qk]
    exact HFIN.out
end Go.Proofs.YtjcgnbmpnaapdaaDoor
namespace Go.Proofs.YtjcgnbmpnaapdaaDoor
open Go.RowKit
set_option linter.unusedVariables false

theorem Full.one {B P E : Nat} {w w' : World} {v : PV} {l : Bs} {L : Lm} {s : S} (h : Full B P w v l L s) (hs : w.heap.size ≤ w'.heap.size) (hb : ∀ i, i < w.heap.size → i ≠ E → w'.heap[i]? = w.heap[i]?) (hE : ∀ c t f, w.heap[E]? = some (.cells c t f) → t = 35) (hr : ∀ g, v.ready.ownBlock = some g → g ≠ E) :
    Full B P w' v l L s ∧ Ky 37 w w' := by
  have hk : ∀ {t : TypeId}, t ≠ 35 → Ky t w w' := by
    intro t h1 k c f hh
    rw [hb k (Array.getElem?_eq_some_iff.1 hh).1]
    · exact hh
    · rintro rfl; exact h1 (hE _ _ _ hh)
  obtain ⟨xs, h1, h2⟩ := h.rd
  have hrr : RR B w' v.ready s.ready.length xs := by
    refine rr_blk h1 ?_
    intro g e
    exact hb g (h1.lt g e).2 (hr g e)
  refine ⟨⟨h.inn.ky (hk (by decide)) (hk (by decide)), h.pb, h.gb, Nat.le_trans h.sz hs, h.ld, h.lN, h.la, h.lt', h.bD, h.bA, h.bT, h.lg, (hk (by decide)).own h.op, h.opl, h.nd, h.bg, h.ta, (hk (by decide)).own h.to, h.tb, h.tl, ⟨xs, hrr, EvC.ky (hk (by decide)) h2⟩, h.rl, h.ov, h.fa, h.fe, h.bN, h.nb, h.ob⟩, hk (by decide)⟩
theorem Fr.lower {B P N : Nat} {w w' : World} {v v' : PV} {l : Bs} {L : Lm} {s : S} (f : Fr P w w' v v') (h : Full B P w v l L s) (hP : N ≤ P) (hB : N ≤ B) : Below N w w' := by
  obtain ⟨xs, hr, _⟩ := h.rd
  have hs := h.sz
  refine ⟨f.os, f.tape, f.output, f.size, fun k hk => f.blk k (by omega) (by omega) ?_ ?_ ?_⟩
  · intro e; have := (h.to.lt k e.symm).1; omega
  · intro e; have := (hr.lt k e.symm).1; omega
  · intro e; have := (h.op.lt k e.symm).1; omega
theorem Fr.ky {B P : Nat} {t : TypeId} {w w' : World} {v v' : PV} {l : Bs} {L : Lm} {s : S} (f : Fr P w w' v v') (h : Full B P w v l L s) (h1 : t ≠ 81) (h2 : t ≠ 5) (h3 : t ≠ 35) (h4 : t ≠ 9) : Ky t w w' := by
  obtain ⟨xs, hr, _⟩ := h.rd
  intro k c g hh
  rw [f.blk k (Array.getElem?_eq_some_iff.1 hh).1]
  · exact hh
  · rintro rfl
    have := h.inn.ps
    unfold PS at this
    rw [this] at hh
    simp at hh
    exact h1 hh.2.1.symm
  · intro e; exact own_ty h.to h2 k e.symm _ _ hh
  · intro e; exact rr_ty hr h3 k e.symm _ _ hh
  · intro e; exact own_ty h.op h4 k e.symm _ _ hh
theorem Fr.rr {B P n : Nat} {w w' : World} {v v' : PV} {l : Bs} {L : Lm} {s : S} {av : Value} {xs : List Value} (f : Fr P w w' v v') (h : Full B P w v l L s) (hr : RR B w av n xs) (hne : ∀ k, av.ownBlock = some k → v.ready.ownBlock ≠ some k) : RR B w' av n xs := by
  refine rr_blk hr fun g e => f.blk g (hr.lt g e).2 ?_ ?_ ?_ ?_
  · rintro rfl; exact rr_ty hr (t := 81) (by decide) g e _ _ h.inn.ps
  · intro x
    rcases hr with ⟨rfl, _⟩ | ⟨g', off, cap, rfl, _, ⟨cur, h1, _⟩, _⟩
    · simp [Value.ownBlock] at e
    · simp [Value.ownBlock] at e
      subst e
      exact own_ty h.to (t := 35) (by decide) _ x.symm _ _ h1
  · exact fun x => hne g e x.symm
  · intro x
    rcases hr with ⟨rfl, _⟩ | ⟨g', off, cap, rfl, _, ⟨cur, h1, _⟩, _⟩
    · simp [Value.ownBlock] at e
    · simp [Value.ownBlock] at e
      subst e
      exact own_ty h.op (t := 35) (by decide) _ x.symm _ _ h1
/-- What Next leaves, one form for both ends. -/
def NxU (B P : Nat) (l : Bs) (L : Lm) (x : Nx) (k p : Int) (a b : ByteArray) (sv : Value) (ok : Bool) (v' : PV) (w' : World) : Prop :=
  match x with
  | .ev e s' => ok = true ∧ k = e.kind ∧ p = e.place ∧ a = sb e.name ∧ b = sb e.text ∧ AR B w' sv e.attrs ∧ EvOk e ∧ Full B P w' v' l L s'
  | .fin p er => ok = false ∧ PS w' P v' ∧ v'.fat = p ∧ v'.ferr = er
theorem next_u {B P : Nat} {w : World} {v : PV} {l : Bs} {L : Lm} {s : S} (h : Full B P w v l L s) (hJ : M.J l s) (hP : P ≠ 0) (ht : Tab w) :
    Calls Tryd.prog 24 #[pp P] w fun r w' => ∃ k p a b sa n c ok v', r = .returned (.tuple #[.agg #[.int .i64 k, .int .i64 p, .string a, .string b, .slice sa n c], .bool ok]) ∧ Fr P w w' v v' ∧ NxU B P l L (nextS (l.length + 2) l L s) k p a b (.slice sa n c) ok v' w' := by
  refine (next_s h hJ hP ht).mono ?_
  intro r w' hx
  cases hy : nextS (l.length + 2) l L s with
  | ev e s' =>
    rw [hy] at hx
    obtain ⟨sv, v', rfl, hA, hE, hF, hf⟩ := hx
    obtain ⟨sa, c, rfl⟩ := hA.len
    exact ⟨e.kind, e.place, sb e.name, sb e.text, sa, e.attrs.length, c, true, v', rfl, hf, rfl, rfl, rfl, rfl, rfl, hA, hE, hF⟩
  | fin p er =>
    rw [hy] at hx
    obtain ⟨rfl, v', hp, h1, h2, hf⟩ := hx
    exact ⟨0, 0, ⟨#[]⟩, ⟨#[]⟩, none, 0, 0, false, v', rfl, hf, rfl, hp, h1, h2⟩
theorem next_ev {l : Bs} {L : Lm} {s s' : S} {e : Ev} (hJ : M.J l s) (h : nextS (l.length + 2) l L s = .ev e s') : M.J l s' ∧ M.mu l s' < M.mu l s := by
  cases hr : s.ready with
  | cons e1 es =>
    rw [M.next_pop hr] at h
    cases h
    exact ⟨hJ.clear es, by unfold M.mu M.ov1; rw [hr]; simp⟩
  | nil =>
    have l1 := M.ov1_le s
    rcases M.next_run (L := L) (l.length + 2) s hJ hr (by unfold M.nu; omega) (l.length + 2) (by unfold M.nu; omega) with ⟨p, e1, a1, _⟩ | ⟨e1, s2, m2, a1, a2, a3, _⟩
    · rw [h] at a1; cases a1
    · rw [h] at a1; cases a1; exact ⟨a2, a3⟩
theorem all_ev {l : Bs} {L : Lm} {s s' : S} {e : Ev} {n : Nat} {acc : List Ev} (h : nextS (l.length + 2) l L s = .ev e s') : allS (n + 1) l L s acc = allS n l L s' (acc ++ [e]) := by rw [allS, h]
theorem all_fin {l : Bs} {L : Lm} {s : S} {p er : Int} {n : Nat} {acc : List Ev} (h : nextS (l.length + 2) l L s = .fin p er) : allS (n + 1) l L s acc = (acc, p, er) := by rw [allS, h]
end Go.Proofs.YtjcgnbmpnaapdaaDoor
namespace Go.Proofs.YtjcgnbmpnaapdaaDoor
open Go.RowKit
set_option linter.unusedVariables false

def AllP (w : World) (X : List Ev × Int × Int) (e : Ending) (w' : World) : Prop :=
  ∃ B sv xs, e = .returned (.tuple #[sv, .int .i64 X.2.1, .int .i64 X.2.2]) ∧ w.heap.size ≤ B ∧ RR B w' sv X.1.length xs ∧ EvC B w' X.1 xs ∧ Below w.heap.size w w'
/-- All's loop, at its head. -/
def AllI (B P E : Nat) (l : Bs) (L : Lm) (X : List Ev × Int × Int) (n : Nat) (k p : Int) (a b : ByteArray) (sv : Value) (ok : Bool) (acc : List Ev) (v : PV) (w : World) : Prop :=
  (ok = true ∧ ∃ e s, k = e.kind ∧ p = e.place ∧ a = sb e.name ∧ b = sb e.text ∧ AR B w sv e.attrs ∧ EvOk e ∧ Full B P w v l L s ∧ M.J l s ∧ M.mu l s < n ∧ Tab w ∧ (∀ g, v.ready.ownBlock = some g → g ≠ E) ∧ acc.length + (n + 1) ≤ 4 * l.length + 3 ∧ allS n l L s (acc ++ [e]) = X)
  ∨ (ok = false ∧ PS w P v ∧ X = (acc, v.fat, v.ferr))
structure AllC (B P E N : Nat) (w0 : World) (uv : Value) (k p : Int) (a b : ByteArray) (sv : Value) (acc : List Ev) (v : PV) (w : World) : Prop where
  e : w.heap[E]? = some (.cells #[.int .i64 k, .int .i64 p, .string a, .string b, sv] 35 (0, 0))
  rr : ∃ xs, RR B w uv acc.length xs ∧ EvC B w acc xs
  ne : ∀ g, uv.ownBlock = some g → v.ready.ownBlock ≠ some g ∧ g ≠ E
  bl : Below N w0 w
  ge : N ≤ E ∧ N ≤ P ∧ N ≤ B ∧ B ≤ w.heap.size ∧ P ≠ 0
theorem Tab.lower {N : Nat} {w w' : World} (h : Tab w) (hb : Below N w w') (hN : 0 < N) : Tab w' := by
  constructor
  · exact (hb.cell hN).trans h.a
  · exact (hb.cell hN).trans h.b
  · exact (hb.cell hN).trans h.c
  · exact (hb.cell hN).trans h.d
  · exact (hb.cell hN).trans h.e
  · exact (hb.cell hN).trans h.f
/-- Between the append and Next. -/
structure AllM (B P N : Nat) (l : Bs) (L : Lm) (w0 : World) (uv : Value) (acc : List Ev) (v : PV) (s : S) (w : World) : Prop where
  full : Full B P w v l L s
  rr : ∃ xs, RR B w uv acc.length xs ∧ EvC B w acc xs
  ne : ∀ g, uv.ownBlock = some g → v.ready.ownBlock ≠ some g
  bl : Below N w0 w
  tab : Tab w
  ge : N ≤ P ∧ N ≤ B ∧ P ≠ 0 ∧ 0 < N
theorem AllM.below {B P N : Nat} {l : Bs} {L : Lm} {w0 w w' : World} {uv : Value} {acc : List Ev} {v : PV} {s : S} (h : AllM B P N l L w0 uv acc v s w) (hb : Below w.heap.size w w') : AllM B P N l L w0 uv acc v s w' := by
  obtain ⟨xs, h1, h2⟩ := h.rr
  have hs := h.full.sz
  obtain ⟨g1, g2, g3, g4⟩ := h.ge
  refine ⟨(h.full.below hb).1, ⟨xs, rr_blk h1 (fun g e => hb.block g (h1.lt g e).2), EvC.ky (Ky.of (grownBy_of_below hb none) (fun g e => by cases e)) h2⟩, h.ne, h.bl.trans (hb.mono (by omega)), h.tab.lower hb (by omega), h.ge⟩
theorem alli {B P E n : Nat} {l : Bs} {L : Lm} {X : List Ev × Int × Int} {k p : Int} {a b : ByteArray} {sv : Value} {ok : Bool} {acc : List Ev} {v' : PV} {s : S} {w' : World} (hx : NxU B P l L (nextS (l.length + 2) l L s) k p a b sv ok v' w') (hJ : M.J l s) (hmu : M.mu l s < n + 1) (ht : Tab w')
    (hne : ok = true → ∀ g, v'.ready.ownBlock = some g → g ≠ E) (hac : acc.length + (n + 1) ≤ 4 * l.length + 3) (hX : allS (n + 1) l L s acc = X) : AllI B P E l L X n k p a b sv ok acc v' w' := by
  cases hy : nextS (l.length + 2) l L s with
  | ev e s' =>
    rw [hy] at hx
    obtain ⟨rfl, h1, h2, h3, h4, h5, h6, h7⟩ := hx
    have := next_ev hJ hy
    exact .inl ⟨rfl, e, s', h1, h2, h3, h4, h5, h6, h7, this.1, by omega, ht, hne rfl, by omega, by rw [← hX, all_ev hy]⟩
  | fin p er =>
    rw [hy] at hx
    obtain ⟨rfl, h1, h2, h3⟩ := hx
    exact .inr ⟨rfl, h1, by rw [← hX, all_fin hy, h2, h3]⟩
theorem AllI.move {B P E n : Nat} {l : Bs} {L : Lm} {X : List Ev × Int × Int} {k p : Int} {a b : ByteArray} {sv : Value} {ok : Bool} {acc : List Ev} {v : PV} {w w' : World} (h : AllI B P E l L X n k p a b sv ok acc v w) (hs : w.heap.size ≤ w'.heap.size) (hb : ∀ i, i < w.heap.size → i ≠ E → w'.heap[i]? = w.heap[i]?) (hE : ∀ c t f, w.heap[E]? = some (.cells c t f) → t = 35) (hPE : P ≠ E) (hE0 : E ≠ 0) : AllI B P E l L X n k p a b sv ok acc v w' := by
  rcases h with ⟨rfl, e, s, h1, h2, h3, h4, h5, h6, h7, h8, h9, h10, h11, h12, h13⟩ | ⟨rfl, h1, h2⟩
  · have := h7.one hs hb hE h11
    have h0 : w'.heap[0]? = w.heap[0]? := hb 0 (World.block_lt_of_cell? w _ h10.a) hE0.symm
    exact .inl ⟨rfl, e, s, h1, h2, h3, h4, this.2.own h5, h6, this.1, h8, h9, ⟨(World.cell?_of_block h0).trans h10.a, (World.cell?_of_block h0).trans h10.b, (World.cell?_of_block h0).trans h10.c, (World.cell?_of_block h0).trans h10.d, (World.cell?_of_block h0).trans h10.e, (World.cell?_of_block h0).trans h10.f⟩, h11, h12, h13⟩
  · exact .inr ⟨rfl, (hb P h1.lt hPE).trans h1, h2⟩
/-- Next, then the store of its event. -/
theorem AllM.next {B P N n : Nat} {l : Bs} {L : Lm} {w0 w5 w6 w7 : World} {uv sv : Value} {acc : List Ev} {v v6 : PV} {s : S} {k p : Int} {a b : ByteArray} {ok : Bool} {E : Nat} {X : List Ev × Int × Int} (h : AllM B P N l L w0 uv acc v s w5) (hJ : M.J l s) (hmu : M.mu l s < n + 1) (hac : acc.length + (n + 1) ≤ 4 * l.length + 3) (hX : allS (n + 1) l L s acc = X)
    (f6 : Fr P w5 w6 v v6) (hx : NxU B P l L (nextS (l.length + 2) l L s) k p a b sv ok v6 w6) (hE6 : ∀ c t f, w6.heap[E]? = some (.cells c t f) → t = 35) (hEP : P ≠ E) (hEN : N ≤ E) (hEr : ok = true → ∀ g, v6.ready.ownBlock = some g → g ≠ E) (hEu : ∀ g, uv.ownBlock = some g → g ≠ E)
    (hs7 : w6.heap.size ≤ w7.heap.size) (hb7 : ∀ i, i < w6.heap.size → i ≠ E → w7.heap[i]? = w6.heap[i]?) (hio : w7.os = w6.os ∧ w7.tape = w6.tape ∧ w7.output = w6.output) (hE7 : w7.heap[E]? = some (.cells #[.int .i64 k, .int .i64 p, .string a, .string b, sv] 35 (0, 0))) :
    AllC B P E N w0 uv k p a b sv acc v6 w7 ∧ AllI B P E l L X n k p a b sv ok acc v6 w7 := by
  obtain ⟨xs, h1, h2⟩ := h.rr
  obtain ⟨g1, g2, g3, g4⟩ := h.ge
  have hz := h.full.sz
  have hz6 := f6.size
  have hlow := f6.lower h.full g1 g2
  have r6 := f6.rr h.full h1 h.ne
  have hk6 := f6.ky h.full (t := 37) (by decide) (by decide) (by decide) (by decide)
  have hk7 : Ky 37 w6 w7 := by
    intro i c f hh
    rw [hb7 i (Array.getElem?_eq_some_iff.1 hh).1]
    · exact hh
    · rintro rfl; exact absurd (hE6 _ _ _ hh) (by decide)
  have hb67 : Below N w6 w7 := ⟨hio.1, hio.2.1, hio.2.2, hs7, fun i hi => hb7 i (by omega) (by omega)⟩
  have ht6 := h.tab.lower hlow g4
  refine ⟨⟨hE7, ⟨xs, rr_blk r6 (fun g e => hb7 g (r6.lt g e).2 (hEu g e)), EvC.ky hk7 (EvC.ky hk6 h2)⟩, ?_, (h.bl.trans hlow).trans hb67, hEN, g1, g2, by omega, g3⟩, (alli hx hJ hmu ht6 hEr hac hX).move hs7 hb7 hE6 hEP (by omega)⟩
  intro g e
  refine ⟨?_, hEu g e⟩
  intro x
  rcases f6.nr g x with y | y
  · exact h.ne g e y
  · have := (h1.lt g e).2; omega
/-- The append. -/
theorem AllC.app {B P E N : Nat} {l : Bs} {L : Lm} {w0 w w4 : World} {uv sv : Value} {acc : List Ev} {v : PV} {s : S} {e : Ev} {ty : TypeId} {c : Array Value} {xs : List Value} {a' : Addr} {cap : Nat} (h : AllC B P E N w0 uv e.kind e.place (sb e.name) (sb e.text) sv acc v w) (h5 : AR B w sv e.attrs) (h6 : EvOk e) (h7 : Full B P w v l L s) (h10 : Tab w) (h0 : 0 < N)
    (hxr : RR B w uv acc.length xs) (hxe : EvC B w acc xs)
    (hrr : RR B w4 (.slice (some a') (acc.length + 1) cap) (acc.length + 1) (xs ++ evHead e sv)) (hg : (w.alloc (.cells c ty)).grownBy w4 uv.ownBlock) (hn : ∀ k, (Value.slice (some a') (acc.length + 1) cap).ownBlock = some k → uv.ownBlock = some k ∨ (w.alloc (.cells c ty)).heap.size ≤ k) :
    AllM B P N l L w0 (.slice (some a') (acc.length + 1) cap) (acc ++ [e]) v s w4 ∧ w4.heap[E]? = w.heap[E]? := by
  obtain ⟨g0, g1, g2, g3, g4⟩ := h.ge
  have hbA : Below w.heap.size w (w.alloc (.cells c ty)) := (Below.refl _ _).alloc (Nat.le_refl _) _
  have hFA := (h7.below hbA).1
  have hrA : RR B (w.alloc (.cells c ty)) uv acc.length xs := rr_blk hxr (fun g e => hbA.block g (hxr.lt g e).2)
  have hkA : Ky 37 w (w.alloc (.cells c ty)) := Ky.of (grownBy_of_below hbA none) (fun g e => by cases e)
  have hk4 : Ky 37 (w.alloc (.cells c ty)) w4 := Ky.of hg (rr_ty hrA (by decide))
  have hbl : ∀ i, i < w.heap.size → uv.ownBlock ≠ some i → w4.heap[i]? = w.heap[i]? := fun i hi hne => (hg.block i (by simp; omega) (fun x => hne x.symm)).trans (hbA.block i hi)
  have hsz : w.heap.size ≤ w4.heap.size := Nat.le_trans (by simp) hg.size
  have hb4 : Below N w w4 := ⟨hg.os, hg.tape, hg.output, hsz, fun i hi => hbl i (by omega) (fun x => by have := (hxr.lt i x).1; omega)⟩
  have hF4 : Full B P w4 v l L s := by
    cases hu : uv.ownBlock with
    | none => exact (h7.one (E := w.heap.size) hsz (fun i hi _ => hbl i hi (by rw [hu]; simp)) (fun c t f hh => absurd (Array.getElem?_eq_some_iff.1 hh).1 (by omega)) (fun g e => by
        obtain ⟨ys, hy, _⟩ := h7.rd
        have := (hy.lt g e).2; omega)).1
    | some g =>
      refine (h7.one (E := g) hsz (fun i hi hne => hbl i hi (by rw [hu]; simpa using fun x => hne x.symm)) ?_ ?_).1
      · intro c t f hh
        rcases Classical.em (t = 35) with x | x
        · exact x
        · exact absurd hh (rr_ty hxr x g hu c f)
      · rintro g' e rfl
        exact (h.ne g' hu).1 e
  refine ⟨⟨hF4, ⟨xs ++ evHead e sv, by simpa using hrr, EvC.app (EvC.ky hk4 (EvC.ky hkA hxe)) ⟨sv, [], by simp, ⟨hk4.own (hkA.own h5), h6⟩, rfl⟩⟩, ?_, h.bl.trans hb4, h10.lower hb4 h0, g1, g2, g4, h0⟩, hbl E (Array.getElem?_eq_some_iff.1 h.e).1 (fun x => (h.ne E x).2 rfl)⟩
  intro g e x
  rcases hn g e with y | y
  · exact (h.ne g y).1 x
  · obtain ⟨ys, hy, _⟩ := h7.rd
    have := (hy.lt g x).2
    simp at y
    omega
end Go.Proofs.YtjcgnbmpnaapdaaDoor
namespace Go.Proofs.YtjcgnbmpnaapdaaDoor
open Go.RowKit
set_option linter.unusedVariables false

/-- One block of events set, cell by cell. -/
structure EW (E : Nat) (ce : Array Value) (w w' : World) : Prop where
  e : w'.heap[E]? = some (.cells ce 35 (0, 0))
  io : w'.os = w.os ∧ w'.tape = w.tape ∧ w'.output = w.output
  size : w.heap.size ≤ w'.heap.size
  blk : ∀ i, i ≠ E → w'.heap[i]? = w.heap[i]?
theorem EW.ev {E i : Nat} {ce ce' : Array Value} {w w' : World} {x : Value} (h : EW E ce w w') (hx : ce.setIfInBounds i x = ce') : EW E ce' w (w'.setCell ⟨E, i, none⟩ x) :=
  ⟨(by rw [← hx]; exact Bk.set (i := i) h.e x), h.io, (Nat.le_trans h.size (by simp [World.setCell])), fun j h1 => (hset h1).trans (h.blk j h1)⟩
theorem ew5 {E : Nat} {x0 x1 x2 x3 x4 y0 y1 y2 y3 y4 : Value} {w : World} (h : w.heap[E]? = some (.cells #[x0, x1, x2, x3, x4] 35 (0, 0))) :
    EW E #[y0, y1, y2, y3, y4] w (((((w.setCell ⟨E, 0, none⟩ y0).setCell ⟨E, 1, none⟩ y1).setCell ⟨E, 2, none⟩ y2).setCell ⟨E, 3, none⟩ y3).setCell ⟨E, 4, none⟩ y4) := by
  have h0 : EW E #[x0, x1, x2, x3, x4] w w := ⟨h, ⟨rfl, rfl, rfl⟩, Nat.le_refl _, fun _ _ => rfl⟩
  exact ((((h0.ev (i := 0) (ce' := #[y0, x1, x2, x3, x4]) rfl).ev (i := 1) (ce' := #[y0, y1, x2, x3, x4]) rfl).ev (i := 2) (ce' := #[y0, y1, y2, x3, x4]) rfl).ev (i := 3) (ce' := #[y0, y1, y2, y3, x4]) rfl).ev (i := 4) (ce' := #[y0, y1, y2, y3, y4]) rfl
set_option maxHeartbeats 3200000 in
theorem all_any {w : World} {vb : Value} {l : Bs} (d n a' t p r : Int) (h : BI w vb l) (hl : l.length ≤ 65536) (hT : Tab w) :
    Calls Tryd.prog 12 #[vb, limV d n a' t p r] w (AllP w (allS (4 * l.length + 3) l (limS d n a' t) s0 [])) := by
  obtain ⟨X, hX⟩ : ∃ X, X = allS (4 * l.length + 3) l (limS d n a' t) s0 [] := ⟨_, rfl⟩
  rw [← hX]
  have HX : Hid _ := hX
  have HB : Hid _ := And.intro h hT
  clear hX h hT
  go_enter Tryd.func12, Tryd.ntmps12
  go_wp2_with (first
    | (go_at_call 23; refine (new_any d n a' t p r (HB.out.1.below ((Below.refl _ _).alloc (Nat.le_refl _) _)) hl).mono ?_; rintro e w1 ⟨P, v, rfl, hP, hb1, hF⟩; have hbw : Below w.heap.size w w1 := ((Below.refl _ _).alloc (Nat.le_refl _) _).trans (hb1.mono (by simp)); have hPw : w.heap.size < P := (by simp at hP; omega); have HN : Hid _ := And.intro hPw (And.intro hbw (And.intro hF (And.intro (by omega : P ≠ 0) (HB.out.2.lower hbw (World.block_lt_of_cell? w _ HB.out.2.a))))); clear hP hb1 hF hbw hPw)
    | (go_at_call 24; refine (next_u HN.out.2.2.1 (M.J.s0 l) HN.out.2.2.2.1 HN.out.2.2.2.2).mono ?_; rintro e w2 ⟨k2, p2, a2, b2, sa2, n2, c2, ok2, v2, rfl, f2, hx2⟩; have HQ : Hid _ := And.intro f2 hx2; clear f2 hx2))
  go_loopg [8, 9, 10] (4 * l.length + 2) (fun m u8 u9 u10 wr => ∃ (E : Nat) (k p : Int) (a b : ByteArray) (sa : Option Addr) (sn sc : Nat) (ok : Bool) (acc : List Ev) (v : PV), u9 = pp E ∧ u10 = .bool ok ∧ AllC w1.heap.size P E w.heap.size w u8 k p a b (.slice sa sn sc) acc v wr ∧ AllI w1.heap.size P E l (limS d n a' t) X m k p a b (.slice sa sn sc) ok acc v wr)
  case atStart =>
    have h0 : 0 < w.heap.size := World.block_lt_of_cell? w _ HB.out.2.a
    obtain ⟨hPw, hbw, hF, hP0, hT1⟩ := HN.out
    have hM : AllM w1.heap.size P w.heap.size l (limS d n a' t) w (.slice none 0 0) [] v s0 w1 := ⟨hF, ⟨[], .inl ⟨rfl, rfl, rfl⟩, rfl⟩, fun g x => by simp [Value.ownBlock] at x, hbw, hT1, by omega, hbw.size, hP0, h0⟩
    have hs2 := HQ.out.1.size
    have hs1 := hbw.size
    have hsP := hF.inn.ps.lt
    have := hM.next (n := 4 * l.length + 2) (E := w2.heap.size) (X := X) (w7 := w2.alloc (.cells #[.int .i64 k2, .int .i64 p2, .string a2, .string b2, .slice sa2 n2 c2] 35)) (M.J.s0 l) (by show 4 * (l.length - 0) + 0 + 1 < _; omega) (by simp) HX.out.symm HQ.out.1 HQ.out.2 (fun c t f hh => absurd (Array.getElem?_eq_some_iff.1 hh).1 (by omega)) (by omega) (by omega)
      (fun ho g x => by
        have hq := HQ.out.2
        cases hy : nextS (l.length + 2) l (limS d n a' t) s0 with
        | ev e s' =>
          rw [hy] at hq
          have := hq.2.2.2.2.2.2.2.vb.r g x
          omega
        | fin p er =>
          rw [hy] at hq
          rw [hq.1] at ho
          cases ho)
      (fun g x => by simp [Value.ownBlock] at x) (by simp) (fun i hi _ => Below.heap_alloc _ _ _ hi) ⟨rfl, rfl, rfl⟩ (heap_alloc_new w2 _)
    exact ⟨w2.heap.size, k2, p2, a2, b2, sa2, n2, c2, ok2, [], v2, rfl, rfl, this.1, this.2⟩
  case round =>
    obtain ⟨E, k, p3, a3, b3, sa, sn, sc, ok, acc, v3, rfl, rfl, hC, hI⟩ := hrel
    obtain ⟨xs, hxr, hxe⟩ := hC.rr
    obtain ⟨ua, ucap, rfl, huc, hum⟩ := hxr.form
    have h0 : 0 < w.heap.size := World.block_lt_of_cell? w _ HB.out.2.a
    rcases hI with ⟨rfl, e, s, rfl, rfl, rfl, rfl, h5, h6, h7, h8, h9, h10, h11, h12, h13⟩ | ⟨rfl, hp, hXX⟩
    · obtain ⟨m, rfl⟩ : ∃ m, gk = m + 1 := ⟨gk - 1, by omega⟩
      have e0 : wr.cell? ⟨E, 0, none⟩ = some (.int .i64 e.kind) := Bk.cell (i := 0) hC.e
      have e1 : wr.cell? ⟨E, 1, none⟩ = some (.int .i64 e.place) := Bk.cell (i := 1) hC.e
      have e2 : wr.cell? ⟨E, 2, none⟩ = some (.string (sb e.name)) := Bk.cell (i := 2) hC.e
      have e3 : wr.cell? ⟨E, 3, none⟩ = some (.string (sb e.text)) := Bk.cell (i := 3) hC.e
      have e4 : wr.cell? ⟨E, 4, none⟩ = some (.slice sa sn sc) := Bk.cell (i := 4) hC.e
      have HC : Hid _ := And.intro hC (And.intro hxr hxe)
      have HI : Hid _ := And.intro h5 (And.intro h6 (And.intro h7 (And.intro h8 (And.intro h10 h13))))
      clear hC hxr hxe h5 h6 h7 h8 h10 h11 h13
      have hbn : acc.length + 1 ≤ 1000000 := by omega
      have hBz : w1.heap.size ≤ (wr.alloc (.cells #[.int .i64 e.kind, .int .i64 e.place, .string (sb e.name), .string (sb e.text), .slice sa sn sc] 35)).heap.size := by have := HC.out.1.ge.2.2.2.1; simp; omega
      have hrT : RR w1.heap.size (wr.alloc (.cells #[.int .i64 e.kind, .int .i64 e.place, .string (sb e.name), .string (sb e.text), .slice sa sn sc] 35)) (.slice ua acc.length ucap) acc.length xs := rr_blk HC.out.2.1 (fun g x => ((Below.refl wr.heap.size wr).alloc (Nat.le_refl _) _).block g (HC.out.2.1.lt g x).2)
      have hnews : ∀ j u, (evHead e (.slice sa sn sc))[j]? = some u → (wr.alloc (.cells #[.int .i64 e.kind, .int .i64 e.place, .string (sb e.name), .string (sb e.text), .slice sa sn sc] 35)).cell? ((⟨wr.heap.size, 0, none⟩ : Addr).add j) = some u := by
        intro j u hu
        rw [addr_add]
        have hn := heap_alloc_new wr (.cells #[.int .i64 e.kind, .int .i64 e.place, .string (sb e.name), .string (sb e.text), .slice sa sn sc] 35)
        have := Bk.cell (i := 0 + j) hn
        rw [this]
        simpa [evHead] using hu
      have HRT : Hid _ := And.intro hrT hnews
      clear hrT hnews
      go_wp2_with (first
        | (at_builtin; refine wpList_app (B := w1.heap.size) (n := acc.length) (v := .slice ua acc.length ucap) (xs := xs) rfl (.tmp 27) (.tmp 29) rfl HRT.out.1 rfl ⟨wr.heap.size, 0, none⟩ 1 1 (evHead e (.slice sa sn sc)) rfl rfl HRT.out.2 (by simp [evHead, Value.oneCell']) (by omega) hbn hBz ?_; intro na ncap w4 hrr4 hg4 hn4; have hM := HC.out.1.app HI.out.1 HI.out.2.1 HI.out.2.2.1 HI.out.2.2.2.2.1 h0 HC.out.2.1 HC.out.2.2 hrr4 hg4 hn4; have hE4 := hM.2.trans HC.out.1.e; have q0 : w4.cell? ⟨E, 0, none⟩ = some (.int .i64 e.kind) := Bk.cell (i := 0) hE4; have q1 : w4.cell? ⟨E, 1, none⟩ = some (.int .i64 e.place) := Bk.cell (i := 1) hE4; have q2 : w4.cell? ⟨E, 2, none⟩ = some (.string (sb e.name)) := Bk.cell (i := 2) hE4; have q3 : w4.cell? ⟨E, 3, none⟩ = some (.string (sb e.text)) := Bk.cell (i := 3) hE4; have q4 : w4.cell? ⟨E, 4, none⟩ = some (.slice sa sn sc) := Bk.cell (i := 4) hE4; have HM : Hid _ := hM.1; clear hrr4 hg4 hn4 hM hE4)
        | (go_at_call 24; have hM5 := HM.out.below ((Below.refl w4.heap.size w4).alloc (Nat.le_refl _) (.cells #[.int .i64 e.kind, .int .i64 e.place, .string (sb e.name), .string (sb e.text), .slice sa sn sc] 35)); refine (next_u hM5.full HI.out.2.2.2.1 hM5.ge.2.2.1 hM5.tab).mono ?_; rintro e6 w6 ⟨k6, p6, a6, b6, sa6, n6, c6, ok6, v6, rfl, f6, hx6⟩; have vb4 := HM.out.full.vb; have hE6 : w6.heap[w4.heap.size]? = some (.cells #[.int .i64 e.kind, .int .i64 e.place, .string (sb e.name), .string (sb e.text), .slice sa sn sc] 35 (0, 0)) := (f6.blk w4.heap.size (by simp) (by have := vb4.p; omega) (fun x => by have := vb4.t _ x.symm; omega) (fun x => by have := vb4.r _ x.symm; omega) (fun x => by have := vb4.o _ x.symm; omega)).trans (heap_alloc_new w4 _); have r0 : w6.cell? ⟨w4.heap.size, 0, none⟩ = some (.int .i64 e.kind) := Bk.cell (i := 0) hE6; have r1 : w6.cell? ⟨w4.heap.size, 1, none⟩ = some (.int .i64 e.place) := Bk.cell (i := 1) hE6; have r2 : w6.cell? ⟨w4.heap.size, 2, none⟩ = some (.string (sb e.name)) := Bk.cell (i := 2) hE6; have r3 : w6.cell? ⟨w4.heap.size, 3, none⟩ = some (.string (sb e.text)) := Bk.cell (i := 3) hE6; have r4 : w6.cell? ⟨w4.heap.size, 4, none⟩ = some (.slice sa sn sc) := Bk.cell (i := 4) hE6; have t0 := Bk.froz (i := 0) hE6; have t1 := Bk.froz (i := 1) hE6; have t2 := Bk.froz (i := 2) hE6; have t3 := Bk.froz (i := 3) hE6; have t4 := Bk.froz (i := 4) hE6; have HE6 : Hid _ := hE6; have HVB : Hid _ := vb4; clear hE6 vb4; have HM5 : Hid _ := hM5; have HQ6 : Hid _ := And.intro f6 hx6; clear hM5 f6 hx6))
      have hgt : w.heap.size ≤ w4.heap.size := HM.out.bl.size
      go_roundg m
      case measure => omega
      case rel =>
        have hw := ew5 (y0 := .int .i64 k6) (y1 := .int .i64 p6) (y2 := .string a6) (y3 := .string b6) (y4 := .slice sa6 n6 c6) HE6.out
        have hvb := HVB.out
        have := HM5.out.next (n := m) (E := w4.heap.size) HI.out.2.2.2.1 h9 (by simp; omega) HI.out.2.2.2.2.2 HQ6.out.1 HQ6.out.2 (fun c t f hh => by rw [HE6.out] at hh; simp at hh; exact hh.2.1.symm) (by have := hvb.p; omega) hgt
          (fun _ g x => by
            rcases HQ6.out.1.nr g x with y | y
            · have := hvb.r g y; omega
            · simp at y; omega)
          (fun g x => by
            obtain ⟨ys, hy, _⟩ := HM.out.rr
            have := (hy.lt g x).2; omega)
          hw.size (fun i _ hi => hw.blk i hi) hw.io hw.e
        exact ⟨w4.heap.size, k6, p6, a6, b6, sa6, n6, c6, ok6, acc ++ [e], v6, rfl, rfl, this.1, this.2⟩
    · have HC : Hid _ := And.intro hC (And.intro hxr hxe)
      have HP : Hid _ := hp
      have HXX : Hid _ := hXX
      clear hC hxr hxe hp hXX
      go_wp2_with (first
        | (go_at_call 25; refine (fault_s HP.out).mono ?_; rintro e w6 ⟨rfl, m6, rfl⟩))
      have hfin : AllP w X (.returned (.tuple #[.slice ua acc.length ucap, .int .i64 v3.fat, .int .i64 v3.ferr])) (wr.drewN m6) := by
        rw [HXX.out]
        have hk : Ky 37 wr (wr.drewN m6) := fun _ _ _ h => h
        exact ⟨w1.heap.size, _, xs, rfl, HC.out.1.ge.2.2.1, rr_blk HC.out.2.1 (fun _ _ => rfl), EvC.ky hk HC.out.2.2, HC.out.1.bl.trans ⟨rfl, rfl, rfl, Nat.le_refl _, fun _ _ => rfl⟩⟩
      exact bodyPost_ret (v := .tuple #[.slice ua acc.length ucap, .int .i64 v3.fat, .int .i64 v3.ferr]) (by simp [results, Tryd.results12, go_sem]) rfl hfin
end Go.Proofs.YtjcgnbmpnaapdaaDoor
namespace Go.Proofs.YtjcgnbmpnaapdaaDoor
open Go.RowKit
set_option linter.unusedVariables false

set_option maxHeartbeats 3200000 in
theorem all_long {w : World} {vb : Value} {l : Bs} (d n a' t p r : Int) (h : BI w vb l) (hl : 65536 < l.length) :
    Calls Tryd.prog 12 #[vb, limV d n a' t p r] w (AllP w ([], 0, 3)) := by
  have HB : Hid _ := h
  clear h
  go_enter Tryd.func12, Tryd.ntmps12
  go_wp2_with (first
    | (go_at_call 23; refine (new_long d n a' t p r (HB.out.below ((Below.refl _ _).alloc (Nat.le_refl _) _)) hl).mono ?_; rintro e w1 ⟨P, rfl, hP, hb1, hF⟩; have hbw : Below w.heap.size w w1 := ((Below.refl _ _).alloc (Nat.le_refl _) _).trans (hb1.mono (by simp)); have hPw : w.heap.size < P := (by simp at hP; omega); have HN : Hid _ := And.intro hPw (And.intro hbw hF); clear hP hb1 hF hbw hPw)
    | (go_at_call 24; refine (next_long HN.out.2.2 rfl rfl rfl).mono ?_; rintro e w2 ⟨rfl, v2, hp2, hfa, hfe, f2⟩; have HQ : Hid _ := And.intro hp2 (And.intro hfa (And.intro hfe f2)); clear hp2 hfa hfe f2))
  go_loopg [8, 9, 10] 0 (fun m u8 u9 u10 wr => u8 = .slice none 0 0 ∧ u10 = .bool false ∧ Below w.heap.size w wr ∧ PS wr P v2)
  case atStart =>
    obtain ⟨hPw, hbw, hF⟩ := HN.out
    obtain ⟨hp2, _, _, f2⟩ := HQ.out
    have hb2 : Below w.heap.size w1 w2 := ⟨f2.os, f2.tape, f2.output, f2.size, fun k hk => f2.blk k (by have := hbw.size; omega) (by omega) (by simp [Value.ownBlock]) (by simp [Value.ownBlock]) (by simp [Value.ownBlock])⟩
    have hs := (hbw.trans hb2).size
    exact ⟨rfl, rfl, (hbw.trans hb2).alloc hs _, (Below.heap_alloc _ _ _ hp2.lt).trans hp2⟩
  case round =>
    obtain ⟨rfl, rfl, hb, hp⟩ := hrel
    have HP : Hid _ := hp
    have HBL : Hid _ := hb
    clear hp hb
    go_wp2_with (first
      | (go_at_call 25; refine (fault_s HP.out).mono ?_; rintro e w6 ⟨rfl, m6, rfl⟩))
    have hfin : AllP w ([], 0, 3) (.returned (.tuple #[.slice none 0 0, .int .i64 v2.fat, .int .i64 v2.ferr])) (wr.drewN m6) := by
      rw [HQ.out.2.1, HQ.out.2.2.1]
      exact ⟨w.heap.size, _, [], rfl, Nat.le_refl _, .inl ⟨rfl, rfl, rfl⟩, rfl, HBL.out.trans ⟨rfl, rfl, rfl, Nat.le_refl _, fun _ _ => rfl⟩⟩
    exact bodyPost_ret (v := .tuple #[.slice none 0 0, .int .i64 v2.fat, .int .i64 v2.ferr]) (by simp [results, Tryd.results12, go_sem]) rfl hfin
theorem all_b {w : World} {vb : Value} {l : Bs} (d n a t p r : Int) (h : BI w vb l) (hT : Tab w) :
    Calls Tryd.prog 12 #[vb, limV d n a t p r] w (AllP w (allB l (limS d n a t))) := by
  unfold allB
  split
  · rename_i hl
    exact all_long d n a t p r h hl
  · rename_i hl
    exact all_any d n a t p r h (by omega) hT
end Go.Proofs.YtjcgnbmpnaapdaaDoor
