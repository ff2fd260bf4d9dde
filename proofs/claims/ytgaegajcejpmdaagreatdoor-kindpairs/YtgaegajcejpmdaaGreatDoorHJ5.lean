/- Joined: HK3, HK4, HDcNum1. -/
import Derived.Test.YtgaegajcejpmdaaGreatDoorHJ4
import Derived.Laws.Rows
namespace Go.Proofs.YtgaegajcejpmdaaGreatDoor
open Go.RowKit
set_option linter.unusedVariables false

/-- The names lie in their variable. -/
def NmG (w : World) : Prop := ∃ t f, w.heap[0]? = some (.cells (nmL.map Value.string).toArray t f)
theorem NmG.below {w w' : World} (h : NmG w) (hb : Below w.heap.size w w') : NmG w' := by
  obtain ⟨t, f, h⟩ := h
  exact ⟨t, f, (hb.block 0 (Array.getElem?_eq_some_iff.1 h).1).trans h⟩
theorem NmG.cell {w : World} (h : NmG w) {j : Nat} (hj : j < 33) : w.cell? ⟨0, j, none⟩ = some (.string (nmL.getD j ⟨#[]⟩)) := by
  obtain ⟨t, f, h⟩ := h
  rw [row_cell h]
  exact map_at (f := Value.string) (l := nmL) (d := ⟨#[]⟩) hj
theorem NmG.load {w : World} (h : NmG w) : (loadVar 65 ⟨0, 0, none⟩).run Tryz.prog w = .ok (.agg (nmL.map Value.string).toArray) w := by
  obtain ⟨t, f, h⟩ := h
  exact run_loadVar_row w 0 t 65 _ f _ h Tryz.underlying65 rfl (by kernel_rfl)
theorem nm_index (k : Nat) (hk : k < 33) (w : World) : (Instr.index 65 (.agg (nmL.map Value.string).toArray) (.int .i64 k)).run Tryz.prog w = .ok (.string (nmL.getD k ⟨#[]⟩)) w := by
  have h1 : ((0 : Int) ≤ (k : Int) ∧ (k : Int) < 33) := by omega
  have h2 : (nmL.map Value.string).toArray[k]? = some (.string (nmL.getD k ⟨#[]⟩)) := map_at (f := Value.string) (l := nmL) (d := ⟨#[]⟩) hk
  have e1 : (isAgg 9).run Tryz.prog w = .ok false w := Tryz.isAgg9 w
  have e2 : (sizeOf 9).run Tryz.prog w = .ok 1 w := Tryz.sizeOf9 w
  generalize (nmL.map Value.string).toArray = A at *
  generalize nmL.getD k ⟨#[]⟩ = v at *
  unfold Instr.index asIntOf
  simp only [Sem.run_bind, Sem.run_pure, Result.andThen_ok, run_underlying Tryz.underlying65]
  rw [if_pos (⟨by omega, by omega⟩ : (0 : Int) ≤ (k : Int) ∧ (k : Int) < ((33 : Nat) : Int))]
  simp only [Sem.run_bind, Result.andThen_ok, e2, part, e1, Int.toNat_natCast, Nat.mul_one, h2]
  simp [Sem.run_pure]
theorem name_k (k : Int) (w : World) (h : NmG w) : Calls Tryz.prog 11 #[.int .i64 k] w fun e w' => e = .returned (.string (nmS k)) ∧ w' = w := by
  by_cases hk : isK k = true
  · obtain ⟨n, rfl, hn, hb⟩ := nm_at hk
    have hcn := h.cell hn
    rw [hb] at hcn
    clear hb h
    go_enter Tryz.func11, Tryz.ntmps11
    go_wp2_with (go_at_call 33; refine (known_k _ _).mono ?_; rintro e w' ⟨rfl, rfl⟩)
    go_ret
    exact ⟨rfl, rfl⟩
  · have hk' : isK k = false := by simpa using hk
    have HE : Hid (nmS k = ⟨#[]⟩) := by show _ = _; unfold nmS; rw [if_neg hk]
    clear hk
    go_enter Tryz.func11, Tryz.ntmps11
    go_wp2_with (go_at_call 33; refine (known_k _ _).mono ?_; rintro e w' ⟨rfl, rfl⟩)
    go_ret
    refine ⟨?_, rfl⟩
    rw [HE.out]
    rfl
theorem fd_step {s : ByteArray} {k : Nat} (h1 : 1 ≤ k) (h : k < 33) : fdF s (33 - k) k = if ((nmL.getD k ⟨#[]⟩).toList == s.toList) = true then ((k : Int), 0) else fdF s (33 - (k + 1)) (k + 1) := by
  obtain ⟨m, hm⟩ : ∃ m, 33 - k = m + 1 := ⟨32 - k, by omega⟩
  have e : 33 - (k + 1) = m := by omega
  rw [hm, e, fdF]
theorem od_some {s : ByteArray} {i : Nat} (h : i < odL.length) (he : (s.toList == (odL.getD i ⟨#[]⟩).toList) = true) : odS s = 6 := by
  unfold odS
  rw [if_pos]
  rw [List.any_eq_true]
  refine ⟨odL.getD i ⟨#[]⟩, ?_, he⟩
  rw [List.getD_eq_getElem?_getD, List.getElem?_eq_getElem h]
  simp
theorem tlm (a : Array UInt8) : (⟨a⟩ : ByteArray).toList = a.toList := Lib.toList_data _
set_option maxRecDepth 20000 in
set_option maxHeartbeats 4000000 in
theorem find_k (s : ByteArray) (w : World) (h : NmG w) : Calls Tryz.prog 9 #[.string s] w fun e w' => e = .returned (.tuple #[.int .i64 (fdS s).1, .int .i64 (fdS s).2]) ∧ w' = w := by
  obtain ⟨tt, fr, hg⟩ := h
  have hsz : (Tryz.prog.info? 65).map (·.size) = some (nmL.map Value.string).toArray.size := by kernel_rfl
  have hix0 : ∀ (k : Nat), k < 33 → ∀ w, (Instr.index 65 (.agg (nmL.map Value.string).toArray) (.int .i64 k)).run Tryz.prog w = .ok (.string (nmL.getD k ⟨#[]⟩)) w := nm_index
  generalize (nmL.map Value.string).toArray = A at hg hix0 hsz
  have HIX : Hid _ := hix0
  clear hix0
  go_enter Tryz.func9, Tryz.ntmps9
  go_wp2_with (refine wpList_load_row rfl 65 _ rfl 0 rfl tt _ fr _ hg Tryz.underlying65 rfl hsz ?_)
  go_loopw [7] (fun i wr => wr = w ∧ ∃ k : Nat, i = .int .i64 k ∧ k ≤ 33 ∧ (k = 0 ∨ (1 ≤ k ∧ fdF s (33 - k) k = fdS s))) (fun i _ => 33 - (intOf i).toNat)
  case atStart => exact ⟨rfl, 0, rfl, by omega, .inl rfl⟩
  case round =>
    obtain ⟨rfl, k, rfl, hk, hr⟩ := hrel
    have HR : Hid _ := hr
    clear hr hg hsz
    by_cases hlt : k < 33
    · have hix := HIX.out k hlt wr
      rcases Nat.eq_zero_or_pos k with hk0 | hk1
      · subst hk0
        have hz : isK 0 = false := by decide
        have hix2 : (Instr.index 65 (.agg A) (.int .i64 0)).run Tryz.prog wr = .ok (.string (nmL.getD 0 ⟨#[]⟩)) wr := HIX.out 0 (by omega) wr
        clear hix
        generalize nmL.getD 0 ⟨#[]⟩ = nm at *
        by_cases he : (nm.toList == s.toList) = true
        · go_wp2_with (go_at_call 33; refine (known_k _ _).mono ?_; rintro e w' ⟨rfl, rfl⟩)
          go_roundw
          case rel => exact ⟨trivial, 1, by go_num, by omega, .inr ⟨by omega, rfl⟩⟩
          case measure => simp [intOf]
        · have he' : (nm.toList == s.toList) = false := by simpa using he
          clear he
          go_wp2_with (go_at_call 33; refine (known_k _ _).mono ?_; rintro e w' ⟨rfl, rfl⟩)
          go_roundw
          case rel => exact ⟨trivial, 1, by go_num, by omega, .inr ⟨by omega, rfl⟩⟩
          case measure => simp [intOf]
      · have hkk : isK (k : Int) = true := isK_iff.2 (by omega)
        have HS : Hid _ := fd_step (s := s) hk1 hlt
        have HR2 : Hid _ := (HR.out.resolve_left (by omega)).2
        generalize nmL.getD k ⟨#[]⟩ = nm at *
        by_cases he : (nm.toList == s.toList) = true
        · have HF : Hid (fdS s = ((k : Int), 0)) := by show _ = _; rw [← HR2.out, HS.out, if_pos he]
          go_wp2_with (go_at_call 33; refine (known_k _ _).mono ?_; rintro e w' ⟨rfl, rfl⟩)
          go_ret2
          rw [HF.out]
          exact ⟨rfl, rfl⟩
        · have he' : (nm.toList == s.toList) = false := by simpa using he
          have HF : Hid (fdF s (33 - (k + 1)) (k + 1) = fdS s) := by show _ = _; rw [← HR2.out, HS.out, if_neg he]
          clear he
          go_wp2_with (go_at_call 33; refine (known_k _ _).mono ?_; rintro e w' ⟨rfl, rfl⟩)
          go_roundw
          case rel => exact ⟨trivial, k + 1, by go_num, by omega, .inr ⟨by omega, HF.out⟩⟩
          case measure => simp [intOf]; omega
    · have hk33 : k = 33 := by omega
      subst hk33
      have HF : Hid (fdS s = (0, odS s)) := by
        show _ = _
        rw [← (HR.out.resolve_left (by omega)).2]
        rfl
      clear hlt hk
      go_wp2_with fail
      all_goals
        go_ret2
        refine ⟨?_, rfl⟩
        rw [HF.out]
        simp_all [odS, odL, tlm]
end Go.Proofs.YtgaegajcejpmdaaGreatDoor
namespace Go.Proofs.YtgaegajcejpmdaaGreatDoor
open Go.RowKit
set_option linter.unusedVariables false

theorem od_none {s : ByteArray} (h : ∀ i, i < odL.length → ((odL.getD i ⟨#[]⟩).toList == s.toList) = false) : odS s = 4 := by
  unfold odS
  rw [if_neg]
  rw [List.any_eq_true]
  rintro ⟨x, hx, he⟩
  obtain ⟨i, hi, rfl⟩ := List.getElem_of_mem hx
  have := h i hi
  rw [List.getD_eq_getElem?_getD, List.getElem?_eq_getElem hi] at this
  simp at this he
  exact this he.symm
set_option maxRecDepth 20000 in
set_option maxHeartbeats 4000000 in
theorem find_r (s : ByteArray) (w : World) : Calls Tryz.prog 10 #[.string s] w fun e w' => e = .returned (.tuple #[.int .i64 (fdS s).1, .int .i64 (fdS s).2]) ∧ Below w.heap.size w w' := by
  go_enter Tryz.func10, Tryz.ntmps10
  go_wp2_with (go_at_call 34; refine (names_r _).mono ?_; rintro e w1 ⟨B, rfl, hB, hc, hbel⟩; have HC : Hid _ := hc; have HL : Hid _ := hbel; clear hc hbel)
  go_loopw [5] (fun i wr => wr = w1 ∧ ∃ k : Nat, i = .int .i64 k ∧ k ≤ 33 ∧ 1 ≤ k ∧ fdF s (33 - k) k = fdS s) (fun i _ => 33 - (intOf i).toNat)
  case atStart => exact ⟨rfl, 1, rfl, by omega, by omega, rfl⟩
  case round =>
    obtain ⟨rfl, k, rfl, hk, hk1, hr⟩ := hrel
    have HR : Hid _ := hr
    clear hr
    by_cases hlt : k < 33
    · have hcn := HC.out k hlt
      have HS : Hid _ := fd_step (s := s) hk1 hlt
      generalize nmL.getD k ⟨#[]⟩ = nm at *
      by_cases he : (nm.toList == s.toList) = true
      · have HF : Hid (fdS s = ((k : Int), 0)) := by show _ = _; rw [← HR.out, HS.out, if_pos he]
        go_wp2_with fail
        go_ret2
        rw [HF.out]
        exact ⟨rfl, HL.out⟩
      · have he' : (nm.toList == s.toList) = false := by simpa using he
        have HF : Hid (fdF s (33 - (k + 1)) (k + 1) = fdS s) := by show _ = _; rw [← HR.out, HS.out, if_neg he]
        clear he
        go_wp2_with fail
        go_roundw
        case rel => exact ⟨trivial, k + 1, by go_num, by omega, by omega, HF.out⟩
        case measure => simp [intOf]; omega
    · have hk33 : k = 33 := by omega
      subst hk33
      have HF : Hid (fdS s = (0, odS s)) := by
        show _ = _
        rw [← HR.out]
        rfl
      clear hlt hk hk1 HR
      go_wp2_with fail
      generalize hO : wr.alloc _ = w2
      have hcell : ∀ j, j < 12 → w2.cell? ⟨wr.heap.size, j, none⟩ = some (.string (odL.getD j ⟨#[]⟩)) := fun j hj => by
        rw [← hO, row_cell (nw_heap wr _)]
        exact map_at (f := Value.string) (l := odL) (d := ⟨#[]⟩) (by exact hj)
      have HB2 : Hid (Below w.heap.size w w2) := by
        show Below _ _ _
        rw [← hO]
        exact HL.out.alloc HL.out.size _
      have HCE : Hid _ := hcell
      clear hcell hO
      go_loopw [7] (fun i wq => wq = w2 ∧ ∃ k : Nat, i = .int .i64 k ∧ k ≤ 12 ∧ ∀ j, j < k → ((odL.getD j ⟨#[]⟩).toList == s.toList) = false) (fun i _ => 12 - (intOf i).toNat)
      case atStart => exact ⟨rfl, 0, rfl, by omega, fun j hj => by omega⟩
      case round =>
        obtain ⟨rfl, k, rfl, hk, hr⟩ := hrel
        have HR : Hid _ := hr
        clear hr
        by_cases hlt : k < 12
        · have hcn := HCE.out k hlt
          have HE : Hid _ := od_some (s := s) (i := k) hlt
          have HN : Hid (∀ j, j < k + 1 → (j = k → ((odL.getD k ⟨#[]⟩).toList == s.toList) = false) → ((odL.getD j ⟨#[]⟩).toList == s.toList) = false) := by
            intro j hj hq
            by_cases hjk : j = k
            · subst hjk; exact hq rfl
            · exact HR.out j (by omega)
          generalize odL.getD k ⟨#[]⟩ = nm at *
          by_cases he : (nm.toList == s.toList) = true
          · have hE2 : Hid (odS s = 6) := HE.out (by simp at he ⊢; exact he.symm)
            go_wp2_with fail
            go_ret2
            rw [HF.out, hE2.out]
            exact ⟨rfl, HB2.out⟩
          · have he' : (nm.toList == s.toList) = false := by simpa using he
            clear he
            go_wp2_with fail
            go_roundw
            case rel => exact ⟨trivial, k + 1, by go_num, by omega, fun j hj => HN.out j hj (fun _ => he')⟩
            case measure => simp [intOf]; omega
        · have hE : Hid (odS s = 4) := od_none (fun i hi => HR.out i (by have : odL.length = 12 := rfl; omega))
          go_wp2_with fail
          go_ret2
          rw [HF.out, hE.out]
          exact ⟨rfl, HB2.out⟩
end Go.Proofs.YtgaegajcejpmdaaGreatDoor
namespace Go.Proofs.YtgaegajcejpmdaaGreatDoor.Dc
set_option linter.unusedVariables false

/-- A row of digits, the greatest first, as a number. -/
def dval (l : List Int) : Int := l.foldl (fun a d => a * 10 + d) 0
def Dg (l : List Int) : Prop := ∀ d ∈ l, 0 ≤ d ∧ d ≤ 9
abbrev p10 (n : Nat) : Int := (10 : Int) ^ n
theorem p10_pos (n : Nat) : 0 < p10 n := Int.pow_pos (by omega)
theorem p10_succ (n : Nat) : p10 (n + 1) = p10 n * 10 := Int.pow_succ _ _
theorem p10_add (a b : Nat) : p10 (a + b) = p10 a * p10 b := Int.pow_add _ _ _
theorem dval_snoc (l : List Int) (d : Int) : dval (l ++ [d]) = dval l * 10 + d := by
  unfold dval
  rw [List.foldl_append]
  rfl
theorem dfold (l : List Int) : ∀ a : Int, l.foldl (fun a d => a * 10 + d) a = a * p10 l.length + dval l := by
  induction l with
  | nil => intro a; simp [dval, p10]
  | cons d l ih =>
    intro a
    have e : dval (d :: l) = d * p10 l.length + dval l := by
      unfold dval
      rw [List.foldl_cons, ih]
      simp [dval]
    rw [List.foldl_cons, ih, e, List.length_cons, p10_succ]
    rw [Int.add_mul, Int.mul_assoc, Int.mul_comm 10 (p10 l.length), Int.add_assoc]
theorem dval_cons (d : Int) (l : List Int) : dval (d :: l) = d * p10 l.length + dval l := by
  have := dfold l d
  unfold dval at *
  rw [List.foldl_cons]
  simpa using this
theorem dval_nil : dval [] = 0 := rfl
theorem dval_append (a b : List Int) : dval (a ++ b) = dval a * p10 b.length + dval b := by
  unfold dval
  rw [List.foldl_append, dfold]
  rfl
theorem Dg.cons {d : Int} {l : List Int} (h : Dg (d :: l)) : (0 ≤ d ∧ d ≤ 9) ∧ Dg l := ⟨h d (by simp), fun x hx => h x (by simp [hx])⟩
theorem Dg.app {a b : List Int} (ha : Dg a) (hb : Dg b) : Dg (a ++ b) := fun d hd => by
  rcases List.mem_append.1 hd with h | h
  · exact ha d h
  · exact hb d h
theorem dval_bd : ∀ {l : List Int}, Dg l → 0 ≤ dval l ∧ dval l < p10 l.length
  | [], _ => by simp [dval_nil, p10]
  | d :: l, h => by
    obtain ⟨hd, hl⟩ := h.cons
    have ih := dval_bd hl
    have hp := p10_pos l.length
    rw [dval_cons, List.length_cons, p10_succ]
    have h1 : 0 ≤ d * p10 l.length := Int.mul_nonneg hd.1 (by omega)
    have h2 : d * p10 l.length ≤ 9 * p10 l.length := Int.mul_le_mul_of_nonneg_right hd.2 (by omega)
    omega
/-- Of two rows of a length the first that differs decides. -/
def lexS : List Int → List Int → Int
  | a :: aas, b :: bs => if a = b then lexS aas bs else if a < b then -1 else 1
  | _, _ => 0
theorem lex_val : ∀ {a b : List Int}, a.length = b.length → Dg a → Dg b → (lexS a b = -1 ∧ dval a < dval b) ∨ (lexS a b = 0 ∧ a = b) ∨ (lexS a b = 1 ∧ dval b < dval a)
  | [], [], _, _, _ => .inr (.inl ⟨rfl, rfl⟩)
  | a :: aas, b :: bs, hl, ha, hb => by
    obtain ⟨hd1, h1⟩ := ha.cons
    obtain ⟨hd2, h2⟩ := hb.cons
    have hl' : aas.length = bs.length := by simpa using hl
    have v1 := dval_bd h1
    have v2 := dval_bd h2
    rw [hl'] at v1
    have hp := p10_pos bs.length
    rw [dval_cons, dval_cons, hl', lexS]
    by_cases e : a = b
    · subst e
      rw [if_pos rfl]
      rcases lex_val hl' h1 h2 with ⟨q1, q2⟩ | ⟨q1, q2⟩ | ⟨q1, q2⟩
      · exact .inl ⟨q1, by omega⟩
      · exact .inr (.inl ⟨q1, by rw [q2]⟩)
      · exact .inr (.inr ⟨q1, by omega⟩)
    · rw [if_neg e]
      by_cases lt : a < b
      · rw [if_pos lt]
        have : (a + 1) * p10 bs.length ≤ b * p10 bs.length := Int.mul_le_mul_of_nonneg_right (by omega) (by omega)
        rw [Int.add_mul] at this
        exact .inl ⟨rfl, by omega⟩
      · rw [if_neg lt]
        have : (b + 1) * p10 bs.length ≤ a * p10 bs.length := Int.mul_le_mul_of_nonneg_right (by omega) (by omega)
        rw [Int.add_mul] at this
        exact .inr (.inr ⟨rfl, by omega⟩)
theorem row_uniq {a b : List Int} (hl : a.length = b.length) (ha : Dg a) (hb : Dg b) (h : dval a = dval b) : a = b := by
  rcases lex_val hl ha hb with ⟨_, q⟩ | ⟨_, q⟩ | ⟨_, q⟩
  · omega
  · exact q
  · omega
theorem dval_zero : ∀ {l : List Int}, Dg l → (dval l = 0 ↔ ∀ d ∈ l, d = 0)
  | [], _ => by simp [dval_nil]
  | d :: l, h => by
    obtain ⟨hd, hl⟩ := h.cons
    have ih := dval_zero hl
    have hv := dval_bd hl
    have hp := p10_pos l.length
    have h1 : 0 ≤ d * p10 l.length := Int.mul_nonneg hd.1 (by omega)
    rw [dval_cons]
    constructor
    · intro e x hx
      have h0 : d * p10 l.length = 0 := by omega
      have hd0 : d = 0 := by
        rcases Int.mul_eq_zero.1 h0 with q | q
        · exact q
        · omega
      rcases List.mem_cons.1 hx with q | q
      · rw [q]; exact hd0
      · exact ih.1 (by omega) x q
    · intro e
      have hd0 := e d (by simp)
      have := ih.2 (fun x hx => e x (by simp [hx]))
      rw [hd0, this]; simp
theorem dval_rep (n : Nat) : dval (List.replicate n 0) = 0 := by
  induction n with
  | zero => rfl
  | succ n ih => rw [List.replicate_succ, dval_cons, ih]; simp
theorem Dg.rep (n : Nat) : Dg (List.replicate n 0) := fun d hd => by
  have := (List.mem_replicate.1 hd).2
  omega
/-- Canonical digits with a scale. -/
structure Cn (l : List Int) (s : Nat) : Prop where
  dg : Dg l
  len : s + 1 ≤ l.length
  hd : l.length = s + 1 ∨ l.head? ≠ some 0
  lt : s = 0 ∨ l.getLast? ≠ some 0
theorem head_big {l : List Int} (h : Dg l) (hn : l ≠ []) (h0 : l.head? ≠ some 0) : p10 (l.length - 1) ≤ dval l := by
  cases l with
  | nil => exact absurd rfl hn
  | cons d l =>
    obtain ⟨hd, hl⟩ := h.cons
    have hv := dval_bd hl
    have hp := p10_pos l.length
    have h1 : d ≠ 0 := fun e => h0 (by rw [e]; rfl)
    have h2 : 1 * p10 l.length ≤ d * p10 l.length := Int.mul_le_mul_of_nonneg_right (by omega) (by omega)
    rw [dval_cons]
    show p10 l.length ≤ _
    omega
theorem last_mod {l : List Int} (hn : l ≠ []) : ∃ m d, l = m ++ [d] ∧ dval l = dval m * 10 + d ∧ l.getLast? = some d := by
  rcases List.eq_nil_or_concat l with e | ⟨m, d, e⟩
  · exact absurd e hn
  · have e' : l = m ++ [d] := by simpa using e
    exact ⟨m, d, e', by rw [e', dval_snoc], by rw [e']; simp⟩
theorem p10_mono {a b : Nat} (h : a ≤ b) : p10 a ≤ p10 b := by
  obtain ⟨c, rfl⟩ : ∃ c, b = a + c := ⟨b - a, by omega⟩
  rw [p10_add]
  have h1 := p10_pos a
  have h2 := p10_pos c
  have : p10 a * 1 ≤ p10 a * p10 c := Int.mul_le_mul_of_nonneg_left (by omega) (by omega)
  omega
theorem cn_scale {a b : List Int} {s t S : Nat} (ha : Cn a s) (hb : Cn b t) (h1 : s ≤ S) (h2 : t ≤ S) (h : dval a * p10 (S - s) = dval b * p10 (S - t)) : t ≤ s := by
  apply Classical.byContradiction
  intro hlt
  have e1 : S - s = (S - t) + (t - s) := by omega
  obtain ⟨k, hk⟩ : ∃ k, t - s = k + 1 := ⟨t - s - 1, by omega⟩
  rw [e1, p10_add, ← Int.mul_assoc, Int.mul_comm (dval a), Int.mul_assoc, Int.mul_comm (dval b)] at h
  have hp := p10_pos (S - t)
  have h3 : dval a * p10 (t - s) = dval b := Int.eq_of_mul_eq_mul_left (by omega) h
  rw [hk, p10_succ, ← Int.mul_assoc] at h3
  obtain ⟨m, d, hm, hv, hl⟩ := last_mod (l := b) (fun e => by have := hb.len; rw [e] at this; simp at this)
  have hd := hb.dg d (by rw [hm]; simp)
  have hd0 : d = 0 := by omega
  rcases hb.lt with q | q
  · omega
  · exact q (by rw [hl, hd0])
theorem cn_uniq {a b : List Int} {s t S : Nat} (ha : Cn a s) (hb : Cn b t) (h1 : s ≤ S) (h2 : t ≤ S) (h : dval a * p10 (S - s) = dval b * p10 (S - t)) : a = b ∧ s = t := by
  have q1 := cn_scale ha hb h1 h2 h
  have q2 := cn_scale hb ha h2 h1 h.symm
  have hst : s = t := by omega
  subst hst
  refine ⟨?_, rfl⟩
  have hp := p10_pos (S - s)
  have hv : dval a = dval b := Int.eq_of_mul_eq_mul_right (by omega) h
  have key : ∀ {x y : List Int}, Cn x s → Cn y s → dval x = dval y → y.length ≤ x.length := by
    intro x y hx hy e
    apply Classical.byContradiction
    intro hlt
    have hxl := hx.len
    have hyn : y ≠ [] := fun e => by rw [e] at hlt; simp at hlt
    rcases hy.hd with q | q
    · omega
    · have b1 := head_big hy.dg hyn q
      have b2 := (dval_bd hx.dg).2
      have b3 := p10_mono (a := x.length) (b := y.length - 1) (by omega)
      omega
  have l1 := key ha hb hv
  have l2 := key hb ha hv.symm
  exact row_uniq (by omega) ha.dg hb.dg hv
/-- A number: its sign, its digits, how many of them stand behind the point. -/
abbrev Nm := Bool × List Int × Nat
def CN (n : Nm) : Prop := Cn n.2.1 n.2.2 ∧ (n.1 = true → dval n.2.1 ≠ 0)
/-- Its worth, at a scale. -/
def nv (n : Nm) (S : Nat) : Int := if n.1 = true then -(dval n.2.1 * p10 (S - n.2.2)) else dval n.2.1 * p10 (S - n.2.2)
theorem nm_uniq {a b : Nm} {S : Nat} (ha : CN a) (hb : CN b) (h1 : a.2.2 ≤ S) (h2 : b.2.2 ≤ S) (h : nv a S = nv b S) : a = b := by
  obtain ⟨an, al, aas⟩ := a
  obtain ⟨bn, bl, bs⟩ := b
  obtain ⟨ca, za⟩ := ha
  obtain ⟨cb, zb⟩ := hb
  dsimp only at *
  unfold nv at h
  dsimp only at h
  have va := (dval_bd ca.dg).1
  have vb := (dval_bd cb.dg).1
  have pa := p10_pos (S - aas)
  have pb := p10_pos (S - bs)
  have ga : 0 ≤ dval al * p10 (S - aas) := Int.mul_nonneg va (by omega)
  have gb : 0 ≤ dval bl * p10 (S - bs) := Int.mul_nonneg vb (by omega)
  have na : an = true → dval al * p10 (S - aas) ≠ 0 := fun q e => by
    rcases Int.mul_eq_zero.1 e with r | r
    · exact za q r
    · omega
  have nb : bn = true → dval bl * p10 (S - bs) ≠ 0 := fun q e => by
    rcases Int.mul_eq_zero.1 e with r | r
    · exact zb q r
    · omega
  cases an <;> cases bn
  · simp only [Bool.false_eq_true, if_false] at h
    obtain ⟨q1, q2⟩ := cn_uniq ca cb h1 h2 h
    rw [q1, q2]
  · simp only [Bool.false_eq_true, if_false, if_true] at h
    have := nb rfl
    omega
  · simp only [Bool.false_eq_true, if_false, if_true] at h
    have := na rfl
    omega
  · simp only [if_true] at h
    obtain ⟨q1, q2⟩ := cn_uniq ca cb h1 h2 (by omega)
    rw [q1, q2]
theorem nv_up (n : Nm) {S T : Nat} (h : n.2.2 ≤ S) (hT : S ≤ T) : nv n T = nv n S * p10 (T - S) := by
  unfold nv
  have e : T - n.2.2 = (S - n.2.2) + (T - S) := by omega
  rw [e, p10_add, ← Int.mul_assoc]
  split
  · rw [Int.neg_mul]
  · rfl
end Go.Proofs.YtgaegajcejpmdaaGreatDoor.Dc
