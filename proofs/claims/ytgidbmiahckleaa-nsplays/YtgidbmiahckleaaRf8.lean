/- The second telling's Binds. -/
import Derived.Test.YtgidbmiahckleaaRf7
namespace Go.Proofs.Ytgidbmiahckleaa
open Go.RowKit
set_option linter.unusedVariables false

structure BnI (w : World) (L : List Bs) (rest acc : Bs) (v : Value) (wr : World) : Prop where
  row : wr.ownsRow w.heap.size 88 2 v acc.length (acc.flatMap bc)
  bel : Below w.heap.size w wr
  eq : gthR L L.flatten [] = gthR L rest acc
  len : acc.length + rest.length ≤ L.flatten.length
theorem bc_cell8 {w : World} {base g cap : Nat} {b : Bs} (h : w.ownsRow base 88 2 (.slice (some ⟨g, 0, none⟩) b.length cap) b.length (b.flatMap bc)) (i : Nat) (hi : i < b.length) : w.cell? ⟨g, i * 2, none⟩ = some (.string (b[i]'hi).1) ∧ w.cell? ⟨g, i * 2 + 1, none⟩ = some (.string (b[i]'hi).2) := by
  have k0 := h.cells (g := g) rfl (i * 2) _ (bc_get b (i * 2) (by omega))
  have k1 := h.cells (g := g) rfl (i * 2 + 1) _ (bc_get b (i * 2 + 1) (by omega))
  rw [addr_add0] at k0 k1
  have e1 : i * 2 / 2 = i := by omega
  have e2 : i * 2 % 2 = 0 := by omega
  have e3 : (i * 2 + 1) / 2 = i := by omega
  have e4 : (i * 2 + 1) % 2 = 1 := by omega
  have e5 : b.toArray[i]! = b[i]'hi := by rw [getElem!_pos _ i (by simpa using hi)]; simp
  rw [e1, e2, e5] at k0
  rw [e3, e4, e5] at k1
  exact ⟨k0, k1⟩
theorem row8 {w : World} {base : Nat} {v : Value} {b : Bs} (h : w.ownsRow base 88 2 v b.length (b.flatMap bc)) : RowB w v b := by
  rcases h.2 with ⟨rfl, h0⟩ | ⟨g, cap, cur, rfl, hb, hg, h1, h2, _⟩
  · exact ⟨none, 0, by rw [h0], by omega, Nat.zero_le _, .inl (List.eq_nil_of_length_eq_zero h0)⟩
  · refine ⟨_, cap, rfl, h1, h2, .inr ⟨g, 0, rfl, lt_of hg, fun i hi => ?_⟩⟩
    have := bc_cell8 h i hi
    rwa [Nat.zero_add]
theorem insR_len (p v : ByteArray) : ∀ o : Bs, (insR p v o).length ≤ o.length + 1
  | [] => by simp [insR]
  | q :: o => by
    rw [insR]
    split
    · have := insR_len p v o
      simp only [List.length_cons]; omega
    · split <;> simp
theorem less_cmp : ∀ x y : List UInt8, Op.bytesLess x y = true ↔ Lib.compareBytes x y < 0
  | [], [] => by simp [Op.bytesLess, Lib.compareBytes]
  | _ :: _, [] => by simp [Op.bytesLess, Lib.compareBytes]
  | [], _ :: _ => by simp [Op.bytesLess, Lib.compareBytes]
  | a :: x, b :: y => by
    rw [Op.bytesLess, Lib.compareBytes]
    by_cases h1 : a < b
    · simp [h1]
    · by_cases h2 : b < a
      · have : a ≠ b := by rintro rfl; exact h1 h2
        simp [h1, h2, this]
      · have : a = b := u8_eq h1 h2
        subst this
        have := less_cmp x y
        simp [h1, this]
theorem less_k (a b : ByteArray) : Op.bytesLess a.toList b.toList = true ↔ ltK a b := by
  have e : ∀ c : ByteArray, c.toList = c.data.toList := fun c => by cases c; exact tl_mk _
  rw [e, e]
  exact less_cmp _ _
theorem bc_split (l : Bs) (j : Nat) : l.flatMap bc = (l.take j).flatMap bc ++ (l.drop j).flatMap bc := by
  rw [← List.flatMap_append, List.take_append_drop]
theorem src_take {wr w' : World} {base yg xc j : Nat} {l : Bs} (h : wr.ownsRow base 88 2 (.slice (some ⟨yg, 0, none⟩) l.length xc) l.length (l.flatMap bc)) (hb : Below wr.heap.size wr w') (hy : yg < wr.heap.size) : ∀ t u, ((l.take j).flatMap bc)[t]? = some u → w'.cell? ((⟨yg, 0, none⟩ : Addr).add t) = some u := by
  intro t u ht
  have hlt : t < ((l.take j).flatMap bc).length := (List.getElem?_eq_some_iff.1 ht).1
  have := h.cells (g := yg) rfl t u (by rw [bc_split l j, List.getElem?_append_left hlt]; exact ht)
  rw [addr_add0] at this ⊢
  exact (hb.cell (p := ⟨yg, t, none⟩) hy).trans this
theorem src_drop {wr w' : World} {base yg xc j : Nat} {l : Bs} (h : wr.ownsRow base 88 2 (.slice (some ⟨yg, 0, none⟩) l.length xc) l.length (l.flatMap bc)) (hb : Below wr.heap.size wr w') (hy : yg < wr.heap.size) (hj : j ≤ l.length) : ∀ t u, ((l.drop j).flatMap bc)[t]? = some u → w'.cell? ((⟨yg, j * 2, none⟩ : Addr).add t) = some u := by
  intro t u ht
  have hl : ((l.take j).flatMap bc).length = j * 2 := by rw [bc_len, List.length_take, Nat.min_eq_left hj]
  have := h.cells (g := yg) rfl (j * 2 + t) u (by
    rw [bc_split l j, List.getElem?_append_right (by omega), hl]
    have e : j * 2 + t - j * 2 = t := by omega
    rw [e]; exact ht)
  have e : ((⟨yg, j * 2, none⟩ : Addr).add t) = ⟨yg, j * 2 + t, none⟩ := by unfold Addr.add; split <;> simp_all
  rw [addr_add0] at this
  rw [e]
  exact (hb.cell (p := ⟨yg, j * 2 + t, none⟩) hy).trans this
theorem bc_one (l : Bs) : ∀ u ∈ l.flatMap bc, u.oneCell' = true := by
  intro u hu
  obtain ⟨x, _, hx⟩ := List.mem_flatMap.1 hu
  simp [bc] at hx
  rcases hx with rfl | rfl <;> rfl
theorem emp8 (wr : World) : (wr.alloc (.cells #[] 88)).ownsRow wr.heap.size 88 2 (.slice (some ⟨wr.heap.size, 0, none⟩) 0 0) 0 [] := ⟨rfl, .inr ⟨wr.heap.size, 0, #[], rfl, Nat.le_refl _, nw_heap wr _, Nat.le_refl _, Nat.zero_le _, rfl, rfl⟩⟩
theorem own_base {w : World} {base base' n size : Nat} {e : TypeId} {v : Value} {xs : List Value} (h : w.ownsRow base e size v n xs) (hb : base' ≤ base) : w.ownsRow base' e size v n xs := by
  refine ⟨h.1, ?_⟩
  rcases h.2 with h2 | ⟨g, cap, cur, h1, h2, h3⟩
  · exact .inl h2
  · exact .inr ⟨g, cap, cur, h1, by omega, h3⟩
/-- The first two appends leave what was there. -/
theorem bl_app1 {wr w1 : World} (h : (wr.alloc (.cells #[] 88)).grownBy w1 (some wr.heap.size)) : Below wr.heap.size wr w1 :=
  ((Below.refl wr.heap.size wr).alloc (Nat.le_refl _) _).grown h (by simp) (fun b hb => by simp at hb; omega)
theorem bl_app {wr w1 w2 : World} {v1 : Value} {n : Nat} {xs : List Value} (hb : Below wr.heap.size wr w1) (ho : w1.ownsRow wr.heap.size 88 2 v1 n xs) (h : w1.grownBy w2 v1.ownBlock) : Below wr.heap.size wr w2 :=
  hb.grown h hb.size (fun b hb' => (row_base ho b hb').1)
theorem bnI_new {w wr w3 : World} {L : List Bs} {rest rest' acc : Bs} {v v3 : Value} {B1 sp : ByteArray} {j n : Nat} (hJ : BnI w L rest acc v wr) (hb : Below wr.heap.size wr w3) (ho : w3.ownsRow wr.heap.size 88 2 v3 n ((([] ++ (acc.take j).flatMap bc) ++ bc (B1, sp)) ++ (acc.drop j).flatMap bc)) (hn : n = acc.length + 1) (hin : insR B1 sp acc = acc.take j ++ (B1, sp) :: acc.drop j)
    (hst : gthR L L.flatten [] = gthR L rest' (insR B1 sp acc)) (hl : acc.length + 1 + rest'.length ≤ L.flatten.length) : BnI w L rest' (insR B1 sp acc) v3 w3 := by
  have e : (insR B1 sp acc).flatMap bc = (([] ++ (acc.take j).flatMap bc) ++ bc (B1, sp)) ++ (acc.drop j).flatMap bc := by
    rw [hin, List.flatMap_append, List.flatMap_cons]; simp
  have el : (insR B1 sp acc).length = acc.length + 1 := by
    rw [hin, List.length_append, List.length_cons]
    have := congrArg List.length (List.take_append_drop j acc)
    rw [List.length_append] at this
    omega
  refine ⟨?_, hJ.bel.trans (hb.mono hJ.bel.size), hst, by rw [el]; exact hl⟩
  rw [e, el, ← hn]
  exact own_base ho hJ.bel.size
theorem ins_lt {p v : ByteArray} {q : ByteArray × ByteArray} {o : Bs} (h : ltK q.1 p) : insR p v (q :: o) = q :: insR p v o := by rw [insR, if_pos h]
theorem ins_eq {p v : ByteArray} {q : ByteArray × ByteArray} {o : Bs} (h : ¬ ltK q.1 p) (he : q.1 = p) : insR p v (q :: o) = q :: o := by rw [insR, if_neg h, if_pos he]
theorem ins_new {p v : ByteArray} {q : ByteArray × ByteArray} {o : Bs} (h : ¬ ltK q.1 p) (he : q.1 ≠ p) : insR p v (q :: o) = (p, v) :: q :: o := by rw [insR, if_neg h, if_neg he]
set_option maxRecDepth 100000 in
set_option maxHeartbeats 3200000 in
theorem binds_r {w : World} {Q : Nat} {L : List Bs} (hR : RS w Q L) (hT : L.flatten.length ≤ 1000000) :
    Calls Try.prog 23 #[.pointer (some ⟨Q, 0, none⟩)] w fun e w' => ∃ v, e = .returned v ∧ RowB w' v (bndR L) ∧ Below w.heap.size w w' := by
  obtain ⟨i88, z88, hi88, hz0, hzc, hz1, hz3⟩ := info88p
  have HRS : Hid (RS w Q L) := hR
  obtain ⟨v, hQ, a, cap, rfl, hlc, hcm, hL⟩ := hR
  have hQl := lt_of hQ
  have c0 : w.cell? ⟨Q, 0, none⟩ = some (.slice a L.length cap) := by simp only [World.cell?, hQ]; rfl
  have HL : Hid _ := And.intro hL c0
  clear hL hQ c0
  unfold maxLen at hcm
  go_enter Try.func23, Try.ntmps23
  go_wp2_with fail
  go_loopg [3, 4] L.length (fun m v3 v4 wr => ∃ (i : Nat) (acc : Bs), v4 = .int .i64 i ∧ i + m = L.length ∧ BnI w L (L.drop i).flatten acc v3 wr)
  case atStart => exact ⟨0, [], rfl, by omega, ⟨⟨rfl, .inl ⟨rfl, rfl⟩⟩, Below.refl _ _, rfl, by simp⟩⟩
  case round =>
    obtain ⟨i, acc, rfl, him, hI⟩ := hrel
    obtain ⟨va, vc, rfl⟩ := row_form hI.row
    have c1 := (hI.bel.cell (p := ⟨Q, 0, none⟩) hQl).trans HL.out.2
    by_cases hi : i < L.length
    · obtain ⟨m, rfl⟩ : ∃ m, gk = m + 1 := ⟨gk - 1, by omega⟩
      rcases HL.out.1 with he | ⟨g, o, rfl, hg, hcl⟩
      · rw [he] at hi; simp at hi
      obtain ⟨u, hu, hB⟩ := hcl i hi
      have hfl : (L.drop i).flatten = L[i]'hi ++ (L.drop (i + 1)).flatten := by rw [List.drop_eq_getElem_cons hi, List.flatten_cons]
      rw [hfl] at hI
      generalize (L[i]'hi) = b at *
      obtain ⟨ba, bcp, rfl, hblc, hbcm, hBB⟩ := hB
      unfold maxLen at hbcm
      have HI : Hid _ := And.intro hI (And.intro hu hBB)
      clear hI hu hBB hcl hfl
      go_wp2_with fail
      go_loopg [3, 5] b.length (fun m2 v3 v5 wr2 => ∃ (k : Nat) (acc2 : Bs), v5 = .int .i64 k ∧ k + m2 = b.length ∧ BnI w L (b.drop k ++ (L.drop (i + 1)).flatten) acc2 v3 wr2)
      case atStart => exact ⟨0, acc, rfl, by omega, HI.out.1⟩
      case round =>
        obtain ⟨k, acc2, rfl, hk2, hJ⟩ := hrel
        obtain ⟨xa, xc, rfl⟩ := row_form hJ.row
        have d0 := (hJ.bel.cell (p := ⟨Q, 0, none⟩) hQl).trans HL.out.2
        have d1 := (hJ.bel.cell (p := ⟨g, o + i, none⟩) hg).trans HI.out.2.1
        clear c1
        by_cases hk : k < b.length
        · obtain ⟨m2, rfl⟩ : ∃ m2, gk = m2 + 1 := ⟨gk - 1, by omega⟩
          rcases HI.out.2.2 with he | ⟨bg, bo, rfl, hbg, hbc⟩
          · rw [he] at hk; simp at hk
          have p0 := (hJ.bel.cell (p := ⟨bg, bo + k * 2, none⟩) hbg).trans (hbc k hk).1
          have hdr : b.drop k = b[k]'hk :: b.drop (k + 1) := List.drop_eq_getElem_cons hk
          rw [hdr, List.cons_append] at hJ
          clear hbc hdr
          generalize (b[k]'hk) = B at *
          obtain ⟨B1, B2⟩ := B
          dsimp only at *
          have HS := space_r (RS.below HRS.out hJ.bel) B1
          have hlen := hJ.len
          simp only [List.length_cons, List.length_append] at hlen
          by_cases hx : B1 = xmlB
          · subst hx
            have HJ : Hid _ := And.intro hJ HS
            clear hJ HS
            unfold xmlB at p0
            go_wp2_with fail
            go_roundg m2
            case measure => omega
            case rel =>
              refine ⟨k + 1, acc2, rfl, by omega, HJ.out.1.row, HJ.out.1.bel, HJ.out.1.eq, ?_⟩
              rw [List.length_append]; omega
          have hx1 : ¬ B1.toList = (⟨#[120, 109, 108]⟩ : ByteArray).toList := fun q => hx ((tl_eq _ _).1 q)
          have hx2 : ¬ B1.toList = [120, 109, 108] := fun q => hx1 (by rw [q, tl_mk])
          have hx3 : (B1.toList == [120, 109, 108]) = false := by simpa using hx2
          have hst : gthR L L.flatten [] = gthR L (b.drop (k + 1) ++ (L.drop (i + 1)).flatten) (insR B1 (spaceR L B1).1 acc2) := by
            rw [hJ.eq]
            show gthR L _ (gstep L acc2 (B1, B2)) = _
            unfold gstep
            rw [if_neg hx]
          have HX : Hid _ := hx
          clear hx hx1
          generalize (spaceR L B1).1 = sp at *
          generalize (spaceR L B1).2 = sb at *
          have HJ : Hid _ := And.intro hJ hst
          have HS2 : Hid _ := HS
          clear hJ HS hst
          go_wp2_with fail
          refine Calls.mono HS2.out ?_
          rintro e w3 ⟨rfl, hw3⟩
          subst hw3
          go_wp2_with fail
          go_loopg [9] acc2.length (fun m3 v9 wr3 => ∃ j : Nat, v9 = .int .i64 j ∧ j + m3 = acc2.length ∧ wr3 = w3 ∧ Hid (insR B1 sp acc2 = acc2.take j ++ insR B1 sp (acc2.drop j)))
          case atStart => exact ⟨0, rfl, by omega, rfl, rfl⟩
          case round =>
            obtain ⟨j, rfl, hj2, hw4, hins⟩ := hrel
            subst hw4
            rcases HJ.out.1.row.2 with ⟨hnil, hn0⟩ | ⟨yg, yc, cur, hsm, hyb, hyg, hyc, hym, hys, hyt⟩
            · simp only [Value.slice.injEq] at hnil
              obtain ⟨rfl, _, rfl⟩ := hnil
              have ha0 : acc2 = [] := List.eq_nil_of_length_eq_zero hn0
              subst ha0
              have hj0 : j = 0 := by simp at hj2; omega
              subst hj0
              have HC : Hid (insR B1 sp [] = ([] : Bs).take 0 ++ (B1, sp) :: ([] : Bs).drop 0) := rfl
              clear hins
              go_wp2_with (first | (at_builtin; refine wpList_app _ rfl (.tmp 81) (.tmp 84) 64 rfl wr.heap.size 88 i88 z88 2 32 Try.underlying64 hi88 hz0 hz1 hz3 hzc (by decide) (.slice (some ⟨wr.heap.size, 0, none⟩) 0 0) 0 [] rfl (emp8 wr) _ 0 _ ((([] : Bs).take 0).flatMap bc) rfl (by rw [bc_len, List.length_take]; omega) (.inl rfl) (bc_one _) (by unfold maxLen; omega) (by omega) (by simp) ?_; intro v1 w1 hown1 hg1 hat1; have hbl1 := bl_app1 hg1; have H1 : Hid _ := And.intro hown1 hbl1; clear hown1 hg1 hat1 hbl1) | (at_builtin; refine wpList_app _ rfl (.tmp 85) (.tmp 89) 64 rfl wr.heap.size 88 i88 z88 2 32 Try.underlying64 hi88 hz0 hz1 hz3 hzc (by decide) v1 (0 + 0) ([] ++ (([] : Bs).take 0).flatMap bc) rfl (World.ownsRow.alloc H1.out.1 _) (some ⟨w1.heap.size, 0, none⟩) 1 1 (bc (B1, sp)) rfl rfl (.inr ⟨_, rfl, World.news_of_block (nw_heap w1 _)⟩) (by intro u hu; simp [bc] at hu; rcases hu with rfl | rfl <;> rfl) (by unfold maxLen; omega) (by omega) (by have := H1.out.2.size; simp only [sza]; omega) ?_; intro v2 w2 hown2 hg2 hat2; have hbl2 := bl_app (H1.out.2.alloc H1.out.2.size _) (World.ownsRow.alloc H1.out.1 _) hg2; have H2 : Hid _ := And.intro hown2 hbl2; clear hown2 hg2 hat2 hbl2) | (at_builtin; refine wpList_app _ rfl (.tmp 91) (.tmp 94) 64 rfl wr.heap.size 88 i88 z88 2 32 Try.underlying64 hi88 hz0 hz1 hz3 hzc (by decide) v2 (0 + 0 + 1) (([] ++ (([] : Bs).take 0).flatMap bc) ++ bc (B1, sp)) rfl H2.out.1 _ _ _ ((([] : Bs).drop 0).flatMap bc) rfl (by simp only [bc_len, List.length_drop] <;> omega) (.inl (by omega)) (bc_one _) (by unfold maxLen; omega) (by omega) H2.out.2.size ?_; intro v3 w3 hown3 hg3 hat3; have hbl3 := bl_app H2.out.2 H2.out.1 hg3; have H3 : Hid _ := And.intro hown3 hbl3; clear hown3 hg3 hat3 hbl3))
              all_goals
                go_roundg m2
                case measure => omega
                case rel => exact ⟨k + 1, _, rfl, by omega, bnI_new HJ.out.1 H3.out.2 H3.out.1 (by omega) HC.out HJ.out.2 (by rw [List.length_append]; omega)⟩
            simp only [Value.slice.injEq] at hsm
            obtain ⟨rfl, _, rfl⟩ := hsm
            have hjx : j ≤ xc := by omega
            have HY : Hid (yg < wr.heap.size) := lt_of hyg
            clear hyg hys hyt
            by_cases hj : j < acc2.length
            · obtain ⟨m3, rfl⟩ : ∃ m3, gk = m3 + 1 := ⟨gk - 1, by omega⟩
              have q0 := (bc_cell8 HJ.out.1.row j hj).1
              have hd : acc2.drop j = acc2[j]'hj :: acc2.drop (j + 1) := List.drop_eq_getElem_cons hj
              have ht : acc2.take (j + 1) = acc2.take j ++ [acc2[j]'hj] := by rw [List.take_add_one, List.getElem?_eq_getElem hj]; rfl
              generalize (acc2[j]'hj) = C at *
              obtain ⟨C1, C2⟩ := C
              dsimp only at *
              have HC : Hid _ := And.intro hins (And.intro hd ht)
              clear hins hd ht
              by_cases hlt : ltK C1 B1
              · have hl1 := (less_k C1 B1).2 hlt
                go_wp2_with fail
                go_roundg m3
                case measure => omega
                case rel =>
                  refine ⟨j + 1, rfl, by omega, rfl, ?_⟩
                  show _ = _
                  rw [HC.out.1.out, HC.out.2.1, ins_lt hlt, HC.out.2.2, List.append_assoc]
                  rfl
              have hl1 : Op.bytesLess C1.toList B1.toList = false := by
                cases hq : Op.bytesLess C1.toList B1.toList with
                | false => rfl
                | true => exact absurd ((less_k C1 B1).1 hq) hlt
              have HLT : Hid (¬ ltK C1 B1) := hlt
              clear hlt
              by_cases heq : C1 = B1
              · subst heq
                go_wp2_with fail
                go_roundg m2
                case measure => omega
                case rel =>
                  have hin : insR C1 sp acc2 = acc2 := by
                    rw [HC.out.1.out, HC.out.2.1, ins_eq (q := (C1, C2)) (p := C1) (show ¬ ltK C1 C1 from by have := HLT.out; unfold ltK at *; omega) rfl, ← HC.out.2.1, List.take_append_drop]
                  refine ⟨k + 1, acc2, rfl, by omega, HJ.out.1.row, HJ.out.1.bel, ?_, ?_⟩
                  · rw [HJ.out.2, hin]
                  · rw [List.length_append]; omega
              have hne1 : ¬ C1.toList = B1.toList := fun q => heq ((tl_eq _ _).1 q)
              have hne2 : (C1.toList == B1.toList) = false := by simpa using hne1
              have hin : insR B1 sp acc2 = acc2.take j ++ (B1, sp) :: acc2.drop j := by
                rw [HC.out.1.out, HC.out.2.1, ins_new (q := (C1, C2)) (p := B1) (show ¬ ltK C1 B1 from by have := HLT.out; unfold ltK at *; omega) heq]
              clear HC
              have HC : Hid _ := hin
              clear hin
              go_wp2_with (first | (at_builtin; refine wpList_app _ rfl (.tmp 81) (.tmp 84) 64 rfl wr.heap.size 88 i88 z88 2 32 Try.underlying64 hi88 hz0 hz1 hz3 hzc (by decide) (.slice (some ⟨wr.heap.size, 0, none⟩) 0 0) 0 [] rfl (emp8 wr) _ j _ ((acc2.take j).flatMap bc) rfl (by rw [bc_len, List.length_take]; omega) (.inr ⟨_, rfl, src_take HJ.out.1.row ((Below.refl _ _).alloc (Nat.le_refl _) _) HY.out⟩) (bc_one _) (by unfold maxLen; omega) (by omega) (by simp) ?_; intro v1 w1 hown1 hg1 hat1; have hbl1 := bl_app1 hg1; have H1 : Hid _ := And.intro hown1 hbl1; clear hown1 hg1 hat1 hbl1) | (at_builtin; refine wpList_app _ rfl (.tmp 85) (.tmp 89) 64 rfl wr.heap.size 88 i88 z88 2 32 Try.underlying64 hi88 hz0 hz1 hz3 hzc (by decide) v1 (0 + j) ([] ++ (acc2.take j).flatMap bc) rfl (World.ownsRow.alloc H1.out.1 _) (some ⟨w1.heap.size, 0, none⟩) 1 1 (bc (B1, sp)) rfl rfl (.inr ⟨_, rfl, World.news_of_block (nw_heap w1 _)⟩) (by intro u hu; simp [bc] at hu; rcases hu with rfl | rfl <;> rfl) (by unfold maxLen; omega) (by omega) (by have := H1.out.2.size; simp only [sza]; omega) ?_; intro v2 w2 hown2 hg2 hat2; have hbl2 := bl_app (H1.out.2.alloc H1.out.2.size _) (World.ownsRow.alloc H1.out.1 _) hg2; have H2 : Hid _ := And.intro hown2 hbl2; clear hown2 hg2 hat2 hbl2) | (at_builtin; refine wpList_app _ rfl (.tmp 91) (.tmp 94) 64 rfl wr.heap.size 88 i88 z88 2 32 Try.underlying64 hi88 hz0 hz1 hz3 hzc (by decide) v2 (0 + j + 1) (([] ++ (acc2.take j).flatMap bc) ++ bc (B1, sp)) rfl H2.out.1 _ (acc2.length - j) _ ((acc2.drop j).flatMap bc) rfl (by rw [bc_len, List.length_drop]) (.inr ⟨_, rfl, src_drop HJ.out.1.row H2.out.2 HY.out (by omega)⟩) (bc_one _) (by unfold maxLen; omega) (by omega) H2.out.2.size ?_; intro v3 w3 hown3 hg3 hat3; have hbl3 := bl_app H2.out.2 H2.out.1 hg3; have H3 : Hid _ := And.intro hown3 hbl3; clear hown3 hg3 hat3 hbl3))
              go_roundg m2
              case measure => omega
              case rel => exact ⟨k + 1, _, rfl, by omega, bnI_new HJ.out.1 H3.out.2 H3.out.1 (by omega) HC.out HJ.out.2 (by rw [List.length_append]; omega)⟩
            · have hin : insR B1 sp acc2 = acc2.take j ++ (B1, sp) :: acc2.drop j := by
                have hd : acc2.drop j = [] := List.drop_eq_nil_of_le (by omega)
                rw [hins.out, hd, insR]
              clear hins
              have HC : Hid _ := hin
              clear hin
              go_wp2_with (first | (at_builtin; refine wpList_app _ rfl (.tmp 81) (.tmp 84) 64 rfl wr.heap.size 88 i88 z88 2 32 Try.underlying64 hi88 hz0 hz1 hz3 hzc (by decide) (.slice (some ⟨wr.heap.size, 0, none⟩) 0 0) 0 [] rfl (emp8 wr) _ j _ ((acc2.take j).flatMap bc) rfl (by rw [bc_len, List.length_take]; omega) (.inr ⟨_, rfl, src_take HJ.out.1.row ((Below.refl _ _).alloc (Nat.le_refl _) _) HY.out⟩) (bc_one _) (by unfold maxLen; omega) (by omega) (by simp) ?_; intro v1 w1 hown1 hg1 hat1; have hbl1 := bl_app1 hg1; have H1 : Hid _ := And.intro hown1 hbl1; clear hown1 hg1 hat1 hbl1) | (at_builtin; refine wpList_app _ rfl (.tmp 85) (.tmp 89) 64 rfl wr.heap.size 88 i88 z88 2 32 Try.underlying64 hi88 hz0 hz1 hz3 hzc (by decide) v1 (0 + j) ([] ++ (acc2.take j).flatMap bc) rfl (World.ownsRow.alloc H1.out.1 _) (some ⟨w1.heap.size, 0, none⟩) 1 1 (bc (B1, sp)) rfl rfl (.inr ⟨_, rfl, World.news_of_block (nw_heap w1 _)⟩) (by intro u hu; simp [bc] at hu; rcases hu with rfl | rfl <;> rfl) (by unfold maxLen; omega) (by omega) (by have := H1.out.2.size; simp only [sza]; omega) ?_; intro v2 w2 hown2 hg2 hat2; have hbl2 := bl_app (H1.out.2.alloc H1.out.2.size _) (World.ownsRow.alloc H1.out.1 _) hg2; have H2 : Hid _ := And.intro hown2 hbl2; clear hown2 hg2 hat2 hbl2) | (at_builtin; refine wpList_app _ rfl (.tmp 91) (.tmp 94) 64 rfl wr.heap.size 88 i88 z88 2 32 Try.underlying64 hi88 hz0 hz1 hz3 hzc (by decide) v2 (0 + j + 1) (([] ++ (acc2.take j).flatMap bc) ++ bc (B1, sp)) rfl H2.out.1 _ _ _ ((acc2.drop j).flatMap bc) rfl (by simp only [bc_len, List.length_drop] <;> omega) (.inl (by omega)) (bc_one _) (by unfold maxLen; omega) (by omega) H2.out.2.size ?_; intro v3 w3 hown3 hg3 hat3; have hbl3 := bl_app H2.out.2 H2.out.1 hg3; have H3 : Hid _ := And.intro hown3 hbl3; clear hown3 hg3 hat3 hbl3))
              all_goals
                go_roundg m2
                case measure => omega
                case rel => exact ⟨k + 1, _, rfl, by omega, bnI_new HJ.out.1 H3.out.2 H3.out.1 (by omega) HC.out HJ.out.2 (by rw [List.length_append]; omega)⟩
        · obtain rfl : k = b.length := by omega
          have HJ : Hid _ := hJ
          clear hJ
          go_wp2_with fail
          go_roundg m
          case measure => omega
          case rel =>
            refine ⟨i + 1, acc2, rfl, by omega, ?_⟩
            have := HJ.out
            rwa [List.drop_length, List.nil_append] at this
    · obtain rfl : i = L.length := by omega
      rw [List.drop_length, List.flatten_nil] at hI
      obtain ⟨wo, hwo⟩ : ∃ wo, wo = wr := ⟨_, rfl⟩
      subst hwo
      have he : gthR L L.flatten [] = acc := hI.eq
      have hal : acc.length ≤ L.flatten.length := by have := hI.len; omega
      have HI : Hid _ := And.intro hI he
      clear hI he
      go_wp2_with fail
      go_loopg [11, 12] acc.length (fun m v11 v12 wr4 => ∃ n : Nat, v12 = .int .i64 n ∧ n + m = acc.length ∧ wr4.ownsRow wo.heap.size 88 2 v11 ((acc.take n).filter nonE).length (((acc.take n).filter nonE).flatMap bc) ∧ Below wo.heap.size wo wr4)
      case atStart => exact ⟨0, rfl, by omega, ⟨rfl, .inl ⟨rfl, rfl⟩⟩, Below.refl _ _⟩
      case round =>
        obtain ⟨n, rfl, hn2, hrow, hbl⟩ := hrel
        obtain ⟨ha, hc, rfl⟩ := row_form hrow
        by_cases hn : n < acc.length
        · obtain ⟨m, rfl⟩ : ∃ m, gk = m + 1 := ⟨gk - 1, by omega⟩
          obtain ⟨yg, yc, hxe, _, hyl⟩ := HI.out.1.row.form (by omega)
          simp only [Value.slice.injEq] at hxe
          obtain ⟨rfl, _, rfl⟩ := hxe
          obtain ⟨q0, q1⟩ := bc_cell8 HI.out.1.row n hn
          have q0' := (hbl.cell (p := ⟨yg, n * 2, none⟩) hyl).trans q0
          have q1' := (hbl.cell (p := ⟨yg, n * 2 + 1, none⟩) hyl).trans q1
          have hfl := List.length_filter_le nonE (acc.take n)
          rw [List.length_take] at hfl
          have ht : acc.take (n + 1) = acc.take n ++ [acc[n]'hn] := by rw [List.take_add_one, List.getElem?_eq_getElem hn]; rfl
          clear q0 q1
          generalize (acc[n]'hn) = C at *
          obtain ⟨C1, C2⟩ := C
          dsimp only at *
          have HN : Hid _ := And.intro hrow (And.intro hbl ht)
          clear hrow hbl ht
          by_cases hC : C2.toList = []
          · have hC2 : (C2.toList == []) = true := by simp [hC]
            go_wp2_with fail
            go_roundg m
            case measure => omega
            case rel =>
              refine ⟨n + 1, rfl, by omega, ?_, HN.out.2.1⟩
              have e : (acc.take (n + 1)).filter nonE = (acc.take n).filter nonE := by
                rw [HN.out.2.2, List.filter_append]
                simp [nonE, hC]
              rw [e]
              exact HN.out.1
          · have hC2 : (C2.toList == []) = false := by simpa using hC
            have HCC : Hid _ := hC
            clear hC
            go_wp2_with (first | (at_builtin; refine wpList_app _ rfl (.tmp 108) (.tmp 113) 64 rfl wo.heap.size 88 i88 z88 2 32 Try.underlying64 hi88 hz0 hz1 hz3 hzc (by decide) _ ((acc.take n).filter nonE).length (((acc.take n).filter nonE).flatMap bc) rfl (World.ownsRow.alloc HN.out.1 _) (some ⟨wr.heap.size, 0, none⟩) 1 1 (bc (C1, C2)) rfl rfl (.inr ⟨_, rfl, World.news_of_block (nw_heap wr _)⟩) (by intro u hu; simp [bc] at hu; rcases hu with rfl | rfl <;> rfl) (by unfold maxLen; omega) (by omega) (by have := HN.out.2.1.size; simp only [sza]; omega) ?_; intro v5 w5 hown5 hg5 hat5; have hbl5 := bl_app (HN.out.2.1.alloc HN.out.2.1.size _) (World.ownsRow.alloc HN.out.1 _) hg5; have H5 : Hid _ := And.intro hown5 hbl5; clear hown5 hg5 hat5 hbl5))
            go_roundg m
            case measure => omega
            case rel =>
              refine ⟨n + 1, rfl, by omega, ?_, H5.out.2⟩
              have e : (acc.take (n + 1)).filter nonE = (acc.take n).filter nonE ++ [(C1, C2)] := by
                rw [HN.out.2.2, List.filter_append]
                have : nonE (C1, C2) = true := by
                  have h := HCC.out
                  simp only [nonE]
                  simp
                  exact h
                simp [this]
              rw [e, List.length_append, List.flatMap_append]
              have := H5.out.1
              simpa using this
        · obtain rfl : n = acc.length := by omega
          rw [List.take_length] at hrow
          have hbn : bndR L = acc.filter nonE := by unfold bndR; rw [HI.out.2]
          have HN : Hid _ := And.intro hrow (And.intro hbl hbn)
          clear hrow hbl hbn
          go_wp2_with fail
          go_ret
          exact ⟨_, rfl, by rw [HN.out.2.2]; rw [List.take_length]; exact row8 HN.out.1, HI.out.1.bel.trans (HN.out.2.1.mono HI.out.1.bel.size)⟩
end Go.Proofs.Ytgidbmiahckleaa
