/- The reader: a set of one letter; a category's name. -/
import Derived.Test.YthlkbijpphdblaaA6
import Derived.Test.YthlkbijpphdblaaN4
namespace Go.Proofs.Ythlkbijpphdblaa
open Go.RowKit
set_option linter.unusedVariables false

def ubs (l : Bs) : List UInt8 := l.map fun n => UInt8.ofNat n.toNat
def sb (l : Bs) : ByteArray := ⟨(ubs l).toArray⟩
theorem push_fold (l : List Int) (s : ByteArray) : l.foldl (fun r n => r.push (UInt8.ofNat n.toNat)) s = ⟨s.data ++ (l.map fun n => UInt8.ofNat n.toNat).toArray⟩ := by
  induction l generalizing s with
  | nil => simp
  | cons a l ih =>
    rw [List.foldl_cons, ih]
    simp [ByteArray.push]
theorem addr_add (b o j : Nat) : (⟨b, o, none⟩ : Addr).add j = ⟨b, o + j, none⟩ := by
  by_cases h : j = 0 <;> simp [Addr.add, h]
theorem conv_string (b o cap : Nat) (l : List Int) (w : World) (h : ∀ i, i < l.length → w.cell? ⟨b, o + i, none⟩ = some (.int .u8 (l.getD i 0))) :
    (convert 42 9 (.slice (some ⟨b, o, none⟩) l.length cap)).run Try.prog w = .ok (.string (sb l)) w := by
  rw [run_convert_bytes_string w 42 9 5 _ _ _ Try.underlying42 Try.underlying5 Try.underlying9]
  have hl := run_loadCells_list (P := Try.prog) (w := w) ⟨b, o, none⟩ (l.map (Value.int .u8)) (fun j v hj => by
    rw [List.getElem?_map] at hj
    have hjl : j < l.length := by
      rcases Nat.lt_or_ge j l.length with h | h
      · exact h
      · rw [List.getElem?_eq_none h] at hj; simp at hj
    have := h j hjl
    rw [List.getD_eq_getElem?_getD, List.getElem?_eq_getElem hjl] at this
    rw [List.getElem?_eq_getElem hjl] at hj
    simp at hj
    rw [← hj]
    rw [addr_add]
    simpa using this)
  rw [List.length_map] at hl
  rw [run_bytesToString w ⟨b, o, none⟩ l.length cap l hl, push_fold]
  have e : ByteArray.empty.data = #[] := rfl
  rw [e, Array.empty_append]
  rfl
def sub (l : Bs) (k j : Nat) : Bs := (l.drop k).take (j - k)
theorem sub_len {l : Bs} {k j : Nat} (h : j ≤ l.length) : (sub l k j).length = j - k := by unfold sub; simp; omega
theorem sub_at {l : Bs} {k j i : Nat} (h : i < j - k) : (sub l k j).getD i 0 = l.getD (k + i) 0 := by
  unfold sub
  simp [List.getD_eq_getElem?_getD, List.getElem?_drop, h]
theorem conv_sub {w : World} {g cap k j : Nat} {l : Bs} (hb : ∀ i, i < l.length → w.cell? ⟨g, i, none⟩ = some (.int .u8 (l.getD i 0))) (hj : j ≤ l.length) :
    (convert 42 9 (.slice (some ⟨g, k, none⟩) (j - k) (cap - k))).run Try.prog w = .ok (.string (sb (sub l k j))) w := by
  have := conv_string g k (cap - k) (sub l k j) w ?_
  · rw [sub_len hj] at this; exact this
  · intro i hi
    rw [sub_len hj] at hi
    rw [sub_at hi]
    exact hb (k + i) (by omega)
/-- What goes on and answers a set. -/
def MvS (P : Nat) (w : World) (vb : Value) (l : Bs) (o : Nat) (r : R (List Rg)) (e : Ending) (w' : World) : Prop := match r with
  | .ok s k => ∃ a c, e = .returned (.slice a s.length c) ∧ Own .i32 64 w' w.heap.size (.slice a s.length c) s ∧ In P w' vb l k o ∧ Fro (fun j => j = P) w w'
  | .bad p er => e = .panicked (flt p er) ∧ Fro (fun j => j = P) w w'
theorem ms_bad {P : Nat} {w w' : World} {vb : Value} {l : Bs} {o : Nat} {X : R (List Rg)} {p er : Int} (hx : .bad p er = X) (hf : Fro (fun j => j = P) w w') : MvS P w vb l o X (.panicked (flt p er)) w' := by
  subst hx
  exact ⟨rfl, hf⟩
theorem ms_ok {P : Nat} {w w' : World} {vb v : Value} {l : Bs} {o : Nat} {X : R (List Rg)} {s : List Rg} {k : Nat} {e : Ending} (hx : .ok s k = X) (he : e = .returned v) (ho : Own .i32 64 w' w.heap.size v s) (hi : In P w' vb l k o) (hf : Fro (fun j => j = P) w w') : MvS P w vb l o X e w' := by
  subst hx
  obtain ⟨a, c, rfl⟩ := own_form ho
  exact ⟨a, c, he, ho, hi, hf⟩
theorem own_fro {k : IntKind} {e : TypeId} {w w' : World} {base P : Nat} {v : Value} {l : List Rg} (h : Own k e w base v l) (hf : Fro (fun j => j = P) w w') (hP : P < base) : Own k e w' base v l :=
  row_fro h hf (fun j hj q => by have := (row_base h j hj).1; omega)
set_option maxHeartbeats 400000 in
theorem just_p (r : Int) (w : World) (h0 : 0 ≤ r) (h1 : r ≤ 1114111) : Calls Try.prog 77 #[.int .i32 r] w fun e w' => ∃ a c, e = .returned (.slice a 1 c) ∧ Own .i32 64 w' w.heap.size (.slice a 1 c) [(r, r)] ∧ Below w.heap.size w w' := by
  have hb0 : Below w.heap.size w (w.alloc (.cells #[.int .i32 r, .int .i32 r] 64)) := (Below.refl _ _).alloc (Nat.le_refl _) _
  have hsl : Sl .i32 (w.alloc (.cells #[.int .i32 r, .int .i32 r] 64)) (.slice (some ⟨w.heap.size, 0, none⟩) 1 1) [(r, r)] := sl_lit (l := [(r, r)]) (nw_heap _ _) rfl
  have q1 := of_p _ _ _ hsl (by simp)
  have hu : ∀ s, OfS [(r, r)] s → s = [(r, r)] := fun s hs => ofs_of hs (Cn.one ⟨h0, Int.le_refl _, h1⟩) (fun x => by
    rw [Bool.eq_iff_iff]
    simp only [mem_cons, mem_nil, Bool.and_eq_true, Bool.or_eq_true, inR_iff, decide_eq_true_eq, Bool.false_eq_true, or_false]
    have : MX = 1114111 := rfl
    omega)
  have HQ : Hid _ := And.intro q1 (And.intro hb0 hu)
  clear q1 hb0 hsl hu
  go_enter Try.func77, Try.ntmps77
  go_wp2_with fail
  refine Calls.mono HQ.out.1 ?_
  rintro e w2 ⟨v2, s2, rfl, hof, hown2, hl2, hb2⟩
  have hs := HQ.out.2.2 _ hof
  subst hs
  obtain ⟨a, c, rfl⟩ := own_form hown2
  have H2 : Hid _ := And.intro (hown2.mono HQ.out.2.1.size) (HQ.out.2.1.trans (hb2.mono HQ.out.2.1.size))
  clear hof hown2 hb2 hl2
  go_wp2_with fail
  go_ret
  exact ⟨a, c, rfl, H2.out.1, H2.out.2⟩
/-- A category, from its bracket on. -/
def ctgS (l : Bs) (bg : Int) (k : Nat) : R (List Rg) := (sgnS l 123 k).bind fun _ k1 => (nmS l (l.length + 1) k1).bind fun _ k2 => if (catS (ubs (sub l k1 k2))).2 = true then .ok (catS (ubs (sub l k1 k2))).1 (k2 + 1) else .bad bg 6
theorem nm_bad {l : Bs} {f k : Nat} {p er : Int} (h : pkS l k = .bad p er) : nmS l (f + 1) k = .bad p er := by
  unfold pkS at h
  show (letS l k).bind _ = _
  cases hr : letS l k with
  | ok a k' => rw [hr] at h; cases h
  | bad p' e' =>
    rw [hr] at h
    injection h with h1 h2
    rw [R.bind_bad, h1, h2]
theorem nm_end {l : Bs} {f k k' : Nat} (h : pkS l k = .ok 125 k') : nmS l (f + 1) k = .ok () k := by
  unfold pkS at h
  show (letS l k).bind _ = _
  cases hr : letS l k with
  | ok a k' =>
    rw [hr] at h
    simp only [R.bind_ok, R.ok.injEq] at h
    rw [R.bind_ok, if_pos h.1]
  | bad p' e' => rw [hr] at h; cases h
theorem nm_on {l : Bs} {f k k' : Nat} {r : Int} (h : pkS l k = .ok r k') (hr : r ≠ 125) : nmS l (f + 1) k = nmS l f (k + ln l k) := by
  unfold pkS at h
  show (letS l k).bind _ = _
  by_cases hn : ln l k = 0
  · rw [let_bad hn] at h; cases h
  · rw [let_ok hn] at h ⊢
    simp only [R.bind_ok, R.ok.injEq] at h
    rw [R.bind_ok, if_neg (by rw [h.1]; exact hr)]
theorem pk_ln {l : Bs} {k k' : Nat} {r : Int} (h : pkS l k = .ok r k') : letS l k = .ok (r, ln l k) k ∧ 0 < ln l k := by
  unfold pkS at h
  by_cases hn : ln l k = 0
  · rw [let_bad hn] at h; cases h
  · rw [let_ok hn] at h ⊢
    simp only [R.bind_ok, R.ok.injEq] at h
    exact ⟨by rw [← h.1], by omega⟩
def CtR (P : Nat) (w : World) (vb : Value) (l : Bs) (o k1 : Nat) (X : R Unit) (g : Nat) (wr : World) : Prop := ∃ j : Nat, k1 ≤ j ∧ l.length + 1 ≤ j + g ∧ nmS l g j = X ∧ In P wr vb l j o ∧ Fro (fun j => j = P) w wr
set_option maxHeartbeats 4000000 in
theorem category_p {P k o : Nat} {w : World} {vb : Value} {l : Bs} (bg : Int) (h : In P w vb l k o) : Calls Try.prog 89 #[pp P, .int .i64 bg] w fun e w' => MvS P w vb l o (ctgS l bg k) e w' := by
  obtain ⟨X, hX⟩ : ∃ X, ctgS l bg k = X := ⟨_, rfl⟩
  rw [hX]
  unfold ctgS at hX
  have q := sign_p 123 h (by omega)
  cases hr : sgnS l 123 k with
  | bad p er =>
    rw [hr] at q hX
    have HQ : Hid _ := And.intro q hX
    clear q hr h hX
    go_enter Try.func89, Try.ntmps89
    go_wp2_with fail
    refine Calls.mono HQ.out.1 ?_
    rintro e w1 ⟨rfl, hf⟩
    exact ⟨rfl, ms_bad HQ.out.2 hf⟩
  | ok u k1 =>
    rw [hr] at q hX
    rw [R.bind_ok] at hX
    obtain ⟨X1, hX1⟩ : ∃ X1, nmS l (l.length + 1) k1 = X1 := ⟨_, rfl⟩
    rw [hX1] at hX
    have hPw := lt_of h.ps
    have HQ : Hid _ := And.intro q (And.intro hX hX1)
    clear q hr h hX hX1
    go_enter Try.func89, Try.ntmps89
    go_wp2_with fail
    refine Calls.mono HQ.out.1 ?_
    rintro e w1 ⟨rfl, hi1, hf1⟩
    obtain ⟨⟨c0, c1, c2⟩, f0, f1, f2⟩ := cells3 hi1.ps
    have H1 : Hid _ := And.intro hi1 hf1
    clear hi1 hf1
    go_wp2_with fail
    clear c0 c1 c2 f0 f1 f2
    go_loopg [] (l.length + 1) (fun g wr => CtR P w vb l o k1 X1 g wr)
    case atStart => exact ⟨k1, Nat.le_refl _, by omega, HQ.out.2.2, H1.out.1, H1.out.2⟩
    case round =>
      obtain ⟨j, hkj, hjg, hX1, hi, hf⟩ := hrel
      have hjl := hi.kl
      have hll := hi.ll
      obtain ⟨g, rfl⟩ : ∃ g, gk = g + 1 := ⟨gk - 1, by omega⟩
      have qp := peek_p hi
      cases hr : pkS l j with
      | bad p er =>
        rw [hr] at qp
        rw [nm_bad hr] at hX1
        have hX := HQ.out.2.1
        rw [← hX1] at hX
        have H2 : Hid _ := And.intro qp (And.intro hX hf)
        clear qp hr hX1 hX hi hf
        go_wp2_with fail
        refine Calls.mono H2.out.1 ?_
        rintro e w2 ⟨rfl, m, hw⟩
        exact ⟨rfl, ms_bad H2.out.2.1 (H2.out.2.2.trans (fro_of hw))⟩
      | ok r j' =>
        rw [hr] at qp
        by_cases h125 : r = 125
        · subst h125
          rw [nm_end hr] at hX1
          have hjlt := pk_lt hr
          have hX := HQ.out.2.1
          rw [← hX1, R.bind_ok] at hX
          have H2 : Hid _ := And.intro qp (And.intro hX (And.intro hi hf))
          clear qp hr hX1 hX hi hf
          go_wp2_with fail
          refine Calls.mono H2.out.1 ?_
          rintro e w2 ⟨rfl, m, hw⟩
          have hi := H2.out.2.2.1.dr hw
          have hf := H2.out.2.2.2.trans (fro_of hw)
          have hX := H2.out.2.1
          clear hw H2
          go_upto_region 6 with fail
          have hbr := hi.br.fm
          obtain ⟨a, cap, rfl, h1, h2, h3⟩ := hbr
          rcases h3 with rfl | ⟨B, rfl, hB, hcell⟩
          · simp at hjlt
          have hm := h2
          unfold maxLen at hm
          have hck : ¬ cap = k1 := by omega
          have hcv : (convert 42 9 (.slice (some ⟨B, k1, none⟩) (j - k1) (cap - k1))).run Try.prog w2.drew = .ok (.string (sb (sub l k1 j))) w2.drew := conv_sub hcell hjl
          have hcs : ∀ U : World, Below w2.heap.size w2 U → U.cell? ⟨P, 0, none⟩ = some (.slice (some ⟨B, 0, none⟩) l.length cap) ∧ U.cell? ⟨P, 1, none⟩ = some (.int .i64 (j : Int)) := fun U hU => by
            have := cells3 ((hi.below hU).ps)
            exact ⟨this.1.1, this.1.2.1⟩
          have HB : Hid (Below w2.heap.size w2 w2.drew) := bdrewN (Below.refl _ _) 1
          have i0 : (0 : Int) ≤ (k1 : Int) := by omega
          have i1 : (k1 : Int) ≤ (j : Int) := by omega
          have i2 : (j : Int) ≤ (cap : Int) := by omega
          have qc := fun W => cat_p (sb (sub l k1 j)) W
          have hsd : (sb (sub l k1 j)).data.toList = ubs (sub l k1 j) := by unfold sb; simp
          rw [hsd] at qc
          clear hsd
          obtain ⟨S, hS⟩ : ∃ S, sb (sub l k1 j) = S := ⟨_, rfl⟩
          rw [hS] at hcv qc
          obtain ⟨C, hC⟩ : ∃ C, catS (ubs (sub l k1 j)) = C := ⟨_, rfl⟩
          rw [hC] at qc hX
          obtain ⟨C1, C2⟩ := C
          have HS : Hid _ := And.intro hcs (And.intro qc (And.intro hX (And.intro hi hf)))
          clear hcs qc hS hC hX hi hf hcell
          go_region_held_law (fun U => U.cell? ⟨P, 0, none⟩ = some (.slice (some ⟨B, 0, none⟩) l.length cap) ∧ U.cell? ⟨P, 1, none⟩ = some (.int .i64 (j : Int))) (first | with_reducible exact HS.out.1 _ HB.out | fail)
            (first
              | (go_at_call 24; have hq := HS.out.2.1 w2.drew; (with_reducible refine Calls.mono hq ?_); clear hq; rintro e w5 ⟨a5, c5, rfl, o5, hb5⟩; have hc5 : Below w2.heap.size w2 w5 := HB.out.trans (hb5.mono HB.out.size); clear HB; have HB : Hid (Below w2.heap.size w2 w5) := hc5; have H5 : Hid (Own .i32 64 w5 w2.heap.size (.slice a5 C1.length c5) C1) := o5; clear o5 hb5 hc5)
              | fail)
          have hi5 := HS.out.2.2.2.1.below HB.out
          have hf5 := HS.out.2.2.2.2.trans (Fro.below HB.out)
          obtain ⟨⟨c0, c1, c2⟩, f0, f1, f2⟩ := cells3 hi5.ps
          cases C2 with
          | false =>
            have hX := HS.out.2.2.1
            rw [if_neg (by decide)] at hX
            have H6 : Hid _ := And.intro hX hf5
            clear hX hf5 hi5
            go_wp2
            exact ⟨rfl, ms_bad H6.out.1 H6.out.2⟩
          | true =>
            have hX := HS.out.2.2.1
            rw [if_pos rfl] at hX
            have hs := set_at hi5 (j + 1) ((j : Int) + 1) (by omega) (by omega)
            have hwz : w.heap.size ≤ w2.heap.size := HS.out.2.2.2.2.size
            have ho6 := own_fro (H5.out.mono hwz) hs.2 hPw
            have H6 : Hid _ := And.intro hX (And.intro hs.1 (And.intro (hf5.trans hs.2) ho6))
            clear hX hf5 hi5 hs ho6
            go_wp2_with fail
            go_ret
            exact ms_ok H6.out.1 rfl H6.out.2.2.2 H6.out.2.1 H6.out.2.2.1
        · have n125 : (r != 125) = true := by simpa using h125
          obtain ⟨hlet, hpos⟩ := pk_ln hr
          rw [nm_on hr h125] at hX1
          have hle := ln_le l j hjl
          have H2 : Hid _ := And.intro qp (And.intro hX1 (And.intro hi (And.intro hf hlet)))
          clear qp hr hX1 hi hf hlet h125
          go_wp2_with fail
          refine Calls.mono H2.out.1 ?_
          rintro e w2 ⟨rfl, m, hw⟩
          have hi := H2.out.2.2.1.dr hw
          have hf := H2.out.2.2.2.1.trans (fro_of hw)
          have ql := letter_p hi j hjl
          rw [H2.out.2.2.2.2] at ql
          obtain ⟨⟨c0, c1, c2⟩, f0, f1, f2⟩ := cells3 hi.ps
          have H3 : Hid _ := And.intro ql (And.intro hi hf)
          clear ql hi hf hw
          go_wp2_with fail
          refine Calls.mono H3.out.1 ?_
          rintro e w3 ⟨rfl, m3, hw3⟩
          have hi := H3.out.2.1.dr hw3
          have hf := H3.out.2.2.trans (fro_of hw3)
          clear c0 c1 c2 f0 f1 f2 hw3
          obtain ⟨⟨c0, c1, c2⟩, f0, f1, f2⟩ := cells3 hi.ps
          have hs := set_at hi (j + ln l j) ((j : Int) + (ln l j : Int)) (by omega) hle
          have H4 : Hid _ := And.intro hs.1 (hf.trans hs.2)
          clear hi hf hs
          go_wp2_with fail
          go_roundg g
          case measure => omega
          case rel => exact ⟨j + ln l j, by omega, by omega, H2.out.2.1, H4.out.1, H4.out.2⟩
end Go.Proofs.Ythlkbijpphdblaa
