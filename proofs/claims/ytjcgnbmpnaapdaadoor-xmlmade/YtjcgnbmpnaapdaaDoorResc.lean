/- The reference's Escape. -/
import Derived.Test.YtjcgnbmpnaapdaaDoorQ21
namespace Go.Proofs.YtjcgnbmpnaapdaaDoor
open Go.RowKit
set_option linter.unusedVariables false

/-- The row so far, at the loop's head. -/
structure RE (w : World) (attr : Bool) (l : List UInt8) (i : Nat) (v : Value) (wr : World) : Prop where
  row : wr.ownsRow w.heap.size 5 1 v (escU attr (l.take i)).length (Lib.byteCells (escU attr (l.take i)))
  bel : Below w.heap.size w wr
theorem RE.slice {w wr : World} {attr : Bool} {l : List UInt8} {i : Nat} {v : Value} (h : RE w attr l i v wr) : ∃ a c, v = .slice a (escU attr (l.take i)).length c := by
  rcases h.row.2 with ⟨rfl, h0⟩ | ⟨g, cap, cur, rfl, _⟩
  · exact ⟨none, 0, by rw [h0]⟩
  · exact ⟨_, cap, rfl⟩
theorem RE.len {w wr : World} {attr : Bool} {l : List UInt8} {i : Nat} {v : Value} (h : RE w attr l i v wr) (hl : l.length ≤ 100000000) : (escU attr (l.take i)).length ≤ 600000000 := by
  have h1 := escU_len attr (l.take i)
  have h2 : (l.take i).length ≤ l.length := by simp; omega
  omega
theorem RE.more {w wr w2 : World} {attr : Bool} {l : List UInt8} {i : Nat} {v v' : Value} {c : UInt8} {x : List UInt8} (h : RE w attr l i v wr) (hi : i < l.length) (hc : c = l.getD i 0) (hx : escP attr c = x)
    (ho : w2.ownsRow w.heap.size 5 1 v' ((escU attr (l.take i)).length + x.length) (Lib.byteCells (escU attr (l.take i)) ++ Lib.byteCells x)) (hb : Below w.heap.size w w2) : RE w attr l (i + 1) v' w2 := by
  have hsn : escU attr (l.take (i + 1)) = escU attr (l.take i) ++ x := by
    rw [← hx, ← escU_snoc, hc]
    congr 1
    rw [List.take_add_one, List.getElem?_eq_getElem hi]
    simp [List.getD, hi]
  refine ⟨?_, hb⟩
  rw [hsn, List.length_append]
  simpa [Lib.byteCells] using ho
theorem own_form {w : World} {B n : Nat} {v : Value} {xs : List Value} (h : w.ownsRow B 5 1 v n xs) : ∃ a c, v = .slice a n c := by
  rcases h.2 with ⟨rfl, h0⟩ | ⟨g, cap, cur, rfl, _⟩
  · exact ⟨none, 0, by rw [h0]⟩
  · exact ⟨_, cap, rfl⟩
theorem RE.own {w wr : World} {attr : Bool} {l : List UInt8} {i X : Nat} {v : Value} (h : RE w attr l i v wr) (hX : (escU attr (l.take i)).length = X) : wr.ownsRow w.heap.size 5 1 v X (Lib.byteCells (escU attr (l.take i))) := by
  rw [← hX]; exact h.row
set_option maxHeartbeats 6400000 in
set_option maxRecDepth 100000 in
theorem resc_any (attr : Bool) (l : List UInt8) (w : World) (hl : l.length ≤ 100000000) : Calls Tryd.prog 11 #[.string ⟨l.toArray⟩, .bool attr] w fun e w' => e = .returned (.string ⟨(escU attr l).toArray⟩) ∧ Below w.heap.size w w' := by
  obtain ⟨i0, hi0, hz0, hz1, hz2⟩ := info5p
  have hsz0 : ByteArray.size ⟨l.toArray⟩ = l.length := by simp [ByteArray.size]
  have hsi0 : ∀ (i : Nat) (h : i < l.length), (⟨l.toArray⟩ : ByteArray)[i]'(by rw [hsz0]; exact h) = l[i] := fun i h => rfl
  obtain ⟨s, hs⟩ : ∃ s : ByteArray, s = ⟨l.toArray⟩ := ⟨_, rfl⟩
  have hsz : s.size = l.length := by rw [hs]; exact hsz0
  have hsi : ∀ (i : Nat) (h : i < l.length), s[i]'(by rw [hsz]; exact h) = l[i] := by subst hs; exact hsi0
  rw [← hs]
  clear hs hsi0 hsz0
  have HSI : Hid _ := hsi
  clear hsi
  go_enter Tryd.func11, Tryd.ntmps11
  go_wp2_with fail
  go_loopg [5, 6] l.length (fun n v5 v6 wr => ∃ i : Nat, v6 = .int .i64 i ∧ i + n = l.length ∧ RE w attr l i v5 wr)
  case atStart => exact ⟨0, rfl, by omega, ⟨⟨rfl, .inl ⟨rfl, rfl⟩⟩, Below.refl _ _⟩⟩
  case round =>
    obtain ⟨i, rfl, hin, hR⟩ := hrel
    obtain ⟨ra, rc, rfl⟩ := hR.slice
    have hrl := hR.len hl
    have HR : Hid _ := hR
    have hbs := hR.bel.size
    clear hR
    generalize hX : (escU attr (l.take i)).length = X at *
    by_cases hi : i < l.length
    · obtain ⟨m, rfl⟩ : ∃ m, gk = m + 1 := ⟨gk - 1, by omega⟩
      have hc : l[i] = l.getD i 0 := by simp [List.getD, hi]
      have hlt : i < s.size := by omega
      have HC : Hid _ := hc
      clear hc
      by_cases hc38 : l[i] = 38
      · have hcc := hc38
        clear hc38
        have hcI : ((s[i]'hlt).toNat : Int) = 38 := by rw [HSI.out i hi, hcc]; rfl
        have hP : escP attr l[i] = [38, 97, 109, 112, 59] := by rw [hcc]; cases attr <;> rfl
        have HP : Hid _ := hP
        clear hP hcc
        go_wp2_with (first | (at_builtin; refine Lib.wpList_append_own_string _ rfl _ _ 25 9 rfl w.heap.size 5 i0 Tryd.underlying25 Tryd.underlying9 hi0 hz0 hz1 hz2 (.slice ra X rc) X (Lib.byteCells (escU attr (l.take i))) rfl (HR.out.own hX) ⟨#[38, 97, 109, 112, 59]⟩ rfl (by show X + 5 ≤ maxLen; unfold maxLen; omega) (by show X + 5 ≤ 140737488355328; omega) hbs ?_; intro v' w2 hown hgrow _; have hb2 : Below w.heap.size w w2 := HR.out.bel.grown hgrow hbs (fun k hk => ((HR.out.own hX).lt k hk).1); obtain ⟨a2, c2, rfl⟩ : ∃ a2 c2, v' = .slice a2 (X + 5) c2 := own_form hown; have HW : Hid _ := And.intro hown hb2; clear hown hgrow hb2))
        go_roundg m
        case measure => omega
        case rel => exact ⟨i + 1, by simp, by omega, HR.out.more hi HC.out HP.out (by rw [hX]; exact HW.out.1) HW.out.2⟩
      have n38 : ¬ (((s[i]'hlt).toNat : Int) = 38) := by rw [HSI.out i hi]; exact u8ne hc38
      by_cases hc60 : l[i] = 60
      · have hcc := hc60
        clear hc60
        have hcI : ((s[i]'hlt).toNat : Int) = 60 := by rw [HSI.out i hi, hcc]; rfl
        have hP : escP attr l[i] = [38, 108, 116, 59] := by rw [hcc]; cases attr <;> rfl
        have HP : Hid _ := hP
        clear hP hcc
        go_wp2_with (first | (at_builtin; refine Lib.wpList_append_own_string _ rfl _ _ 25 9 rfl w.heap.size 5 i0 Tryd.underlying25 Tryd.underlying9 hi0 hz0 hz1 hz2 (.slice ra X rc) X (Lib.byteCells (escU attr (l.take i))) rfl (HR.out.own hX) ⟨#[38, 108, 116, 59]⟩ rfl (by show X + 4 ≤ maxLen; unfold maxLen; omega) (by show X + 4 ≤ 140737488355328; omega) hbs ?_; intro v' w2 hown hgrow _; have hb2 : Below w.heap.size w w2 := HR.out.bel.grown hgrow hbs (fun k hk => ((HR.out.own hX).lt k hk).1); obtain ⟨a2, c2, rfl⟩ : ∃ a2 c2, v' = .slice a2 (X + 4) c2 := own_form hown; have HW : Hid _ := And.intro hown hb2; clear hown hgrow hb2))
        go_roundg m
        case measure => omega
        case rel => exact ⟨i + 1, by simp, by omega, HR.out.more hi HC.out HP.out (by rw [hX]; exact HW.out.1) HW.out.2⟩
      have n60 : ¬ (((s[i]'hlt).toNat : Int) = 60) := by rw [HSI.out i hi]; exact u8ne hc60
      by_cases hc62 : l[i] = 62
      · have hcc := hc62
        clear hc62
        have hcI : ((s[i]'hlt).toNat : Int) = 62 := by rw [HSI.out i hi, hcc]; rfl
        have hP : escP attr l[i] = [38, 103, 116, 59] := by rw [hcc]; cases attr <;> rfl
        have HP : Hid _ := hP
        clear hP hcc
        go_wp2_with (first | (at_builtin; refine Lib.wpList_append_own_string _ rfl _ _ 25 9 rfl w.heap.size 5 i0 Tryd.underlying25 Tryd.underlying9 hi0 hz0 hz1 hz2 (.slice ra X rc) X (Lib.byteCells (escU attr (l.take i))) rfl (HR.out.own hX) ⟨#[38, 103, 116, 59]⟩ rfl (by show X + 4 ≤ maxLen; unfold maxLen; omega) (by show X + 4 ≤ 140737488355328; omega) hbs ?_; intro v' w2 hown hgrow _; have hb2 : Below w.heap.size w w2 := HR.out.bel.grown hgrow hbs (fun k hk => ((HR.out.own hX).lt k hk).1); obtain ⟨a2, c2, rfl⟩ : ∃ a2 c2, v' = .slice a2 (X + 4) c2 := own_form hown; have HW : Hid _ := And.intro hown hb2; clear hown hgrow hb2))
        go_roundg m
        case measure => omega
        case rel => exact ⟨i + 1, by simp, by omega, HR.out.more hi HC.out HP.out (by rw [hX]; exact HW.out.1) HW.out.2⟩
      have n62 : ¬ (((s[i]'hlt).toNat : Int) = 62) := by rw [HSI.out i hi]; exact u8ne hc62
      by_cases hc13 : l[i] = 13
      · have hcc := hc13
        clear hc13
        have hcI : ((s[i]'hlt).toNat : Int) = 13 := by rw [HSI.out i hi, hcc]; rfl
        have hP : escP attr l[i] = [38, 35, 120, 68, 59] := by rw [hcc]; cases attr <;> rfl
        have HP : Hid _ := hP
        clear hP hcc
        go_wp2_with (first | (at_builtin; refine Lib.wpList_append_own_string _ rfl _ _ 25 9 rfl w.heap.size 5 i0 Tryd.underlying25 Tryd.underlying9 hi0 hz0 hz1 hz2 (.slice ra X rc) X (Lib.byteCells (escU attr (l.take i))) rfl (HR.out.own hX) ⟨#[38, 35, 120, 68, 59]⟩ rfl (by show X + 5 ≤ maxLen; unfold maxLen; omega) (by show X + 5 ≤ 140737488355328; omega) hbs ?_; intro v' w2 hown hgrow _; have hb2 : Below w.heap.size w w2 := HR.out.bel.grown hgrow hbs (fun k hk => ((HR.out.own hX).lt k hk).1); obtain ⟨a2, c2, rfl⟩ : ∃ a2 c2, v' = .slice a2 (X + 5) c2 := own_form hown; have HW : Hid _ := And.intro hown hb2; clear hown hgrow hb2))
        go_roundg m
        case measure => omega
        case rel => exact ⟨i + 1, by simp, by omega, HR.out.more hi HC.out HP.out (by rw [hX]; exact HW.out.1) HW.out.2⟩
      have n13 : ¬ (((s[i]'hlt).toNat : Int) = 13) := by rw [HSI.out i hi]; exact u8ne hc13
      have hdef : escP attr l[i] = [l[i]] → True := fun _ => trivial
      cases attr
      · have hP : escP false l[i] = [l[i]] := by unfold escP escO; rw [if_neg hc38, if_neg hc60, if_neg hc62, if_neg hc13]; rfl
        have HP : Hid _ := hP
        clear hP
        go_wp2_with (first | (at_builtin; refine wpList_append_own _ rfl _ _ 25 rfl w.heap.size 5 i0 (.int .u8 0) 1 1 Tryd.underlying25 hi0 hz0 hz1 hz2 rfl (by decide) (.slice ra X rc) X (Lib.byteCells (escU false (l.take i))) rfl ((HR.out.own hX).alloc _) ⟨wr.heap.size, 0, none⟩ 1 1 [.int .u8 (s[i]'hlt).toNat] rfl rfl (cell_one_new _ _ _) (by intro u hu; simp at hu; subst hu; rfl) (by unfold maxLen; omega) (by omega) (by simp; omega) ?_; intro v' w2 hown hgrow _; have hb2 : Below w.heap.size w w2 := (HR.out.bel.alloc hbs _).grown hgrow (by simp; omega) (fun k hk => ((HR.out.own hX).lt k hk).1); obtain ⟨a2, c2, rfl⟩ : ∃ a2 c2, v' = .slice a2 (X + 1) c2 := own_form hown; have HW : Hid _ := And.intro hown hb2; clear hown hgrow hb2))
        go_roundg m
        case measure => omega
        case rel => exact ⟨i + 1, by simp, by omega, HR.out.more hi HC.out HP.out (by rw [hX]; have q := HW.out.1; rw [HSI.out i hi] at q; exact q) HW.out.2⟩
      · by_cases hc34 : l[i] = 34
        · have hcc := hc34
          clear hc34
          have hcI : ((s[i]'hlt).toNat : Int) = 34 := by rw [HSI.out i hi, hcc]; rfl
          have hP : escP true l[i] = [38, 113, 117, 111, 116, 59] := by rw [hcc]; rfl
          have HP : Hid _ := hP
          clear hP hcc
          go_wp2_with (first | (at_builtin; refine Lib.wpList_append_own_string _ rfl _ _ 25 9 rfl w.heap.size 5 i0 Tryd.underlying25 Tryd.underlying9 hi0 hz0 hz1 hz2 (.slice ra X rc) X (Lib.byteCells (escU true (l.take i))) rfl (HR.out.own hX) ⟨#[38, 113, 117, 111, 116, 59]⟩ rfl (by show X + 6 ≤ maxLen; unfold maxLen; omega) (by show X + 6 ≤ 140737488355328; omega) hbs ?_; intro v' w2 hown hgrow _; have hb2 : Below w.heap.size w w2 := HR.out.bel.grown hgrow hbs (fun k hk => ((HR.out.own hX).lt k hk).1); obtain ⟨a2, c2, rfl⟩ : ∃ a2 c2, v' = .slice a2 (X + 6) c2 := own_form hown; have HW : Hid _ := And.intro hown hb2; clear hown hgrow hb2))
          go_roundg m
          case measure => omega
          case rel => exact ⟨i + 1, by simp, by omega, HR.out.more hi HC.out HP.out (by rw [hX]; exact HW.out.1) HW.out.2⟩
        have n34 : ¬ (((s[i]'hlt).toNat : Int) = 34) := by rw [HSI.out i hi]; exact u8ne hc34
        by_cases hc9 : l[i] = 9
        · have hcc := hc9
          clear hc9
          have hcI : ((s[i]'hlt).toNat : Int) = 9 := by rw [HSI.out i hi, hcc]; rfl
          have hP : escP true l[i] = [38, 35, 120, 57, 59] := by rw [hcc]; rfl
          have HP : Hid _ := hP
          clear hP hcc
          go_wp2_with (first | (at_builtin; refine Lib.wpList_append_own_string _ rfl _ _ 25 9 rfl w.heap.size 5 i0 Tryd.underlying25 Tryd.underlying9 hi0 hz0 hz1 hz2 (.slice ra X rc) X (Lib.byteCells (escU true (l.take i))) rfl (HR.out.own hX) ⟨#[38, 35, 120, 57, 59]⟩ rfl (by show X + 5 ≤ maxLen; unfold maxLen; omega) (by show X + 5 ≤ 140737488355328; omega) hbs ?_; intro v' w2 hown hgrow _; have hb2 : Below w.heap.size w w2 := HR.out.bel.grown hgrow hbs (fun k hk => ((HR.out.own hX).lt k hk).1); obtain ⟨a2, c2, rfl⟩ : ∃ a2 c2, v' = .slice a2 (X + 5) c2 := own_form hown; have HW : Hid _ := And.intro hown hb2; clear hown hgrow hb2))
          go_roundg m
          case measure => omega
          case rel => exact ⟨i + 1, by simp, by omega, HR.out.more hi HC.out HP.out (by rw [hX]; exact HW.out.1) HW.out.2⟩
        have n9 : ¬ (((s[i]'hlt).toNat : Int) = 9) := by rw [HSI.out i hi]; exact u8ne hc9
        by_cases hc10 : l[i] = 10
        · have hcc := hc10
          clear hc10
          have hcI : ((s[i]'hlt).toNat : Int) = 10 := by rw [HSI.out i hi, hcc]; rfl
          have hP : escP true l[i] = [38, 35, 120, 65, 59] := by rw [hcc]; rfl
          have HP : Hid _ := hP
          clear hP hcc
          go_wp2_with (first | (at_builtin; refine Lib.wpList_append_own_string _ rfl _ _ 25 9 rfl w.heap.size 5 i0 Tryd.underlying25 Tryd.underlying9 hi0 hz0 hz1 hz2 (.slice ra X rc) X (Lib.byteCells (escU true (l.take i))) rfl (HR.out.own hX) ⟨#[38, 35, 120, 65, 59]⟩ rfl (by show X + 5 ≤ maxLen; unfold maxLen; omega) (by show X + 5 ≤ 140737488355328; omega) hbs ?_; intro v' w2 hown hgrow _; have hb2 : Below w.heap.size w w2 := HR.out.bel.grown hgrow hbs (fun k hk => ((HR.out.own hX).lt k hk).1); obtain ⟨a2, c2, rfl⟩ : ∃ a2 c2, v' = .slice a2 (X + 5) c2 := own_form hown; have HW : Hid _ := And.intro hown hb2; clear hown hgrow hb2))
          go_roundg m
          case measure => omega
          case rel => exact ⟨i + 1, by simp, by omega, HR.out.more hi HC.out HP.out (by rw [hX]; exact HW.out.1) HW.out.2⟩
        have n10 : ¬ (((s[i]'hlt).toNat : Int) = 10) := by rw [HSI.out i hi]; exact u8ne hc10
        have hP : escP true l[i] = [l[i]] := by
          have he : escO true l[i] = [] := by unfold escO; rw [if_neg hc38, if_neg hc60, if_neg hc62, if_neg hc13, if_neg (by simp), if_neg hc34, if_neg hc9, if_neg hc10]
          unfold escP
          rw [if_pos he]
        have HP : Hid _ := hP
        clear hP
        go_wp2_with (first | (at_builtin; refine wpList_append_own _ rfl _ _ 25 rfl w.heap.size 5 i0 (.int .u8 0) 1 1 Tryd.underlying25 hi0 hz0 hz1 hz2 rfl (by decide) (.slice ra X rc) X (Lib.byteCells (escU true (l.take i))) rfl ((HR.out.own hX).alloc _) ⟨wr.heap.size, 0, none⟩ 1 1 [.int .u8 (s[i]'hlt).toNat] rfl rfl (cell_one_new _ _ _) (by intro u hu; simp at hu; subst hu; rfl) (by unfold maxLen; omega) (by omega) (by simp; omega) ?_; intro v' w2 hown hgrow _; have hb2 : Below w.heap.size w w2 := (HR.out.bel.alloc hbs _).grown hgrow (by simp; omega) (fun k hk => ((HR.out.own hX).lt k hk).1); obtain ⟨a2, c2, rfl⟩ : ∃ a2 c2, v' = .slice a2 (X + 1) c2 := own_form hown; have HW : Hid _ := And.intro hown hb2; clear hown hgrow hb2))
        go_roundg m
        case measure => omega
        case rel => exact ⟨i + 1, by simp, by omega, HR.out.more hi HC.out HP.out (by rw [hX]; have q := HW.out.1; rw [HSI.out i hi] at q; exact q) HW.out.2⟩
    · have hil : i = l.length := by omega
      subst hil
      rw [List.take_length] at hX
      have hrow := HR.out.row
      rw [List.take_length] at hrow
      have hcv : (convert 25 9 (.slice ra X rc)).run Tryd.prog wr = .ok (.string ⟨(escU attr l).toArray⟩) wr := by
        have e1 : (bl ⟨(escU attr l).toArray⟩).map (Value.int .u8) = Lib.byteCells (escU attr l) := by simp [bl, Lib.byteCells]
        have e2 : (bl ⟨(escU attr l).toArray⟩).length = (escU attr l).length := by simp [bl]
        have hbr : BR wr (.slice ra X rc) (bl ⟨(escU attr l).toArray⟩) := ⟨by rw [e1, e2]; exact own_low hrow (Nat.zero_le _), bl_bd _⟩
        have q := conv_row hbr
        rw [sb_bl] at q
        exact q
      have HF : Hid _ := HR.out.bel
      clear hrow
      go_wp2_with fail
      go_ret
      exact ⟨rfl, HF.out⟩
end Go.Proofs.YtjcgnbmpnaapdaaDoor
