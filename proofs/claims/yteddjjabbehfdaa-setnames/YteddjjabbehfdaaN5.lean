/- The second telling: letters, Category. -/
import Derived.Test.YteddjjabbehfdaaN4
namespace Go.Proofs.Yteddjjabbehfdaa
open Go.RowKit
set_option linter.unusedVariables false

set_option maxHeartbeats 2000000 in
theorem letters_r (s : ByteArray) (w : World) (hs : s.size ≤ 1000) : Calls Try.prog 49 #[.string s] w fun e w' => OfrQ (txL s.data.toList) w e w' := by
  obtain ⟨i58, z58, hi58, hz0, hzc, hz1, hz3⟩ := info_rrp
  have hl0 : s.data.toList.length = s.size := by rw [Array.length_toList]; rfl
  have HA : Hid _ := hl0
  clear hl0
  go_enter Try.func49, Try.ntmps49
  go_wp2_with fail
  go_loopg [3, 4] s.size (fun g v3 v4 wr => ∃ k : Nat, k + g = s.size ∧ v4 = .int .i64 (k : Int) ∧ Own .i64 58 wr w.heap.size v3 (txL (s.data.toList.take k)) ∧ Below w.heap.size w wr)
  case atStart => exact ⟨0, by omega, rfl, Own.nil _ _ _ _, Below.refl _ _⟩
  case round =>
    obtain ⟨k, hk, rfl, hown, hb⟩ := hrel
    obtain ⟨va, vc, rfl⟩ := own_form hown
    have HB : Hid _ := And.intro hown hb
    clear hown hb
    by_cases hlt : k < s.size
    · obtain ⟨g, rfl⟩ : ∃ g, gk = g + 1 := ⟨gk - 1, by omega⟩
      have htk : s.data.toList.take (k + 1) = s.data.toList.take k ++ [s[k]] := by
        rw [List.take_succ_eq_append_getElem (by rw [HA.out]; exact hlt)]
        rfl
      have HT : Hid (txL (s.data.toList.take (k + 1)) = txL (s.data.toList.take k) ++ [((s[k].toNat : Int), (s[k].toNat : Int))]) := by
        rw [htk]
        unfold txL
        rw [List.map_append]
        rfl
      have hlen : (txL (s.data.toList.take k)).length ≤ 1000000 := by
        unfold txL
        rw [List.length_map, List.length_take, HA.out]
        omega
      clear htk
      obtain ⟨C, hC⟩ : ∃ C, txL (s.data.toList.take k) = C := ⟨_, rfl⟩
      rw [hC] at HB HT hlen ⊢
      clear hC
      obtain ⟨PL, hPL⟩ : ∃ PL, C.length = PL := ⟨_, rfl⟩
      have HPL : Hid _ := hPL
      rw [hPL] at HB hlen ⊢
      clear hPL
      have hu : (s[k].toNat : Int) < 256 := by have := s[k].toNat_lt; omega
      have i0 : (0 : Int) ≤ (k : Int) := by omega
      have i1 : (k : Int) < (s.size : Int) := by omega
      have c64 : IntKind.i64.wrap (s[k].toNat : Int) = (s[k].toNat : Int) := by rw [IntKind.wrap_i64]; omega
      go_upto_region 5 with fail
      have hal : ∀ o, Below w.heap.size w (wr.alloc o).drew := fun o => bdrewN (HB.out.2.trans (((Below.refl _ _).alloc (Nat.le_refl _) o).mono HB.out.2.size)) 1
      have HD : Hid _ := hal
      have s0 : w.heap.size ≤ wr.drew.heap.size := HB.out.2.size
      clear hal
      go_region_held_law (fun W => w.heap.size ≤ W.heap.size) (first | with_reducible exact s0 | with_reducible exact (HD.out _).size | with_reducible exact HB7.out.size | fail)
        (first
          | (refine step_put_d wr .i64 58 26 i58 z58 16 Try.underlying26 hi58 hz0 hzc hz1 hz3 (by decide) (.tmp 11) (.tmp 21) rfl rfl w.heap.size (.slice va PL vc) C rfl HB.out.1 ((s[k].toNat : Int), (s[k].toNat : Int)) rfl (by rw [HPL.out]; exact hlen) HB.out.2.size ?_; intro v' w7 hown7 hb7 hv7; have HB7 : Hid (Below w.heap.size w w7) := HB.out.2.trans hb7.1; have H7 : Hid _ := And.intro hown7 hv7; clear hown7 hb7 hv7)
          | fail)
      all_goals
        go_wp2_with fail
        go_roundg g
        case measure => omega
        case rel =>
          refine ⟨k + 1, by omega, by simp, ?_, HB7.out⟩
          rw [HT.out]
          exact H7.out.1
    · have hkl : k = s.size := by omega
      subst hkl
      have hT : s.data.toList.take s.size = s.data.toList := List.take_of_length_le (by rw [HA.out]; omega)
      rw [hT] at HB ⊢
      go_wp2_with fail
      go_ret
      exact ⟨va, vc, rfl, HB.out.1, HB.out.2⟩
def ErQ (p : List Rg × Bool) (w : World) (e : Ending) (w' : World) : Prop := ∃ a c, e = .returned (.tuple #[sV (.slice a p.1.length c), .bool p.2]) ∧ Own .i64 58 w' w.heap.size (.slice a p.1.length c) p.1 ∧ Below w.heap.size w w'
/-- What is told goes into the answer's own block. -/
theorem er_end {w W w2 : World} {v : Value} {t : List Rg} (hx : W.heap[w.heap.size]? = some (.cells #[.slice none 0 0] 28 (0, 0))) (hb0 : Below w.heap.size w W) (hown : Own .i64 58 w2 W.heap.size v t) (hb : Below W.heap.size W w2) : (w2.setCell ⟨w.heap.size, 0, none⟩ v).cell? ⟨w.heap.size, 0, none⟩ = some v ∧ Own .i64 58 (w2.setCell ⟨w.heap.size, 0, none⟩ v) w.heap.size v t ∧ Below w.heap.size w (w2.setCell ⟨w.heap.size, 0, none⟩ v) := by
  have hX := lt_of hx
  have hx2 := bset (i := 0) ((hb.block _ hX).trans hx) v
  simp only [List.setIfInBounds_toArray, List.set_cons_zero] at hx2
  refine ⟨(blk1 hx2).1, ?_, (hb0.trans (hb.mono hb0.size)).setCell (p := ⟨w.heap.size, 0, none⟩) (Nat.le_refl _) _⟩
  have hq : Own .i64 58 (w2.setCell ⟨w.heap.size, 0, none⟩ v) W.heap.size v t := row_fro hown (O := fun j => j = w.heap.size) ((Fro.refl (fun j => j = w.heap.size) w2).set (.inl rfl) _) (fun j hj q => by have := (row_base hown j hj).1; omega)
  exact hq.mono (Nat.le_of_lt hX)
set_option maxHeartbeats 1000000 in
theorem rcat_xlu (w : World) : Calls Try.prog 32 #[.string ⟨#[76, 117]⟩] w fun e w' => ErQ ([(65, 90)], true) w e w' := by
  obtain ⟨x1, x2, hbW⟩ := box2' w (.cells #[.slice none 0 0] 28) (.cells #[.int .i64 65, .int .i64 90] 58)
  have hsl : Sl .i64 ((w.alloc (.cells #[.slice none 0 0] 28)).alloc (.cells #[.int .i64 65, .int .i64 90] 58)) (.slice (some ⟨w.heap.size + 1, 0, none⟩) 1 1) [(65, 90)] := sl_lit (l := [(65, 90)]) x2 rfl
  have q1 := rof_r _ _ _ hsl (by simp)
  have HQ : Hid _ := And.intro q1 (And.intro x1 hbW)
  clear q1 x1 x2 hbW hsl
  go_enter Try.func32, Try.ntmps32
  go_wp2_with fail
  refine Calls.mono HQ.out.1 ?_
  rintro e w2 ⟨a, c, rfl, hown2, hb2⟩
  have hs : ofR [(65, 90)] = [(65, 90)] := by decide +kernel
  rw [hs] at hown2 ⊢
  have hx2 := (hb2.block _ (lt_of HQ.out.2.1)).trans HQ.out.2.1
  obtain ⟨c0, f0⟩ := blk1 hx2
  have hwn : w.heap.size < w2.heap.size := lt_of hx2
  have hE := er_end HQ.out.2.1 HQ.out.2.2 hown2 hb2
  have H2 : Hid _ := hE
  clear hown2 hb2 hs hx2 hE
  go_wp2_with fail
  have k0 : (w2.setCell ⟨w.heap.size, 0, none⟩ (.slice a 1 c)).cell? ⟨w.heap.size, 0, none⟩ = some (.slice a 1 c) := H2.out.1
  refine bodyPost_ret (v := .tuple #[sV (.slice a ([(65, 90)] : List Rg).length c), .bool true]) (by simp [results, Try.results32, go_sem, k0]) rfl ⟨a, c, rfl, H2.out.2.1, H2.out.2.2⟩
set_option maxHeartbeats 1000000 in
theorem rcat_xll (w : World) : Calls Try.prog 32 #[.string ⟨#[76, 108]⟩] w fun e w' => ErQ ([(97, 122)], true) w e w' := by
  obtain ⟨x1, x2, hbW⟩ := box2' w (.cells #[.slice none 0 0] 28) (.cells #[.int .i64 97, .int .i64 122] 58)
  have hsl : Sl .i64 ((w.alloc (.cells #[.slice none 0 0] 28)).alloc (.cells #[.int .i64 97, .int .i64 122] 58)) (.slice (some ⟨w.heap.size + 1, 0, none⟩) 1 1) [(97, 122)] := sl_lit (l := [(97, 122)]) x2 rfl
  have q1 := rof_r _ _ _ hsl (by simp)
  have HQ : Hid _ := And.intro q1 (And.intro x1 hbW)
  clear q1 x1 x2 hbW hsl
  go_enter Try.func32, Try.ntmps32
  go_wp2_with fail
  refine Calls.mono HQ.out.1 ?_
  rintro e w2 ⟨a, c, rfl, hown2, hb2⟩
  have hs : ofR [(97, 122)] = [(97, 122)] := by decide +kernel
  rw [hs] at hown2 ⊢
  have hx2 := (hb2.block _ (lt_of HQ.out.2.1)).trans HQ.out.2.1
  obtain ⟨c0, f0⟩ := blk1 hx2
  have hwn : w.heap.size < w2.heap.size := lt_of hx2
  have hE := er_end HQ.out.2.1 HQ.out.2.2 hown2 hb2
  have H2 : Hid _ := hE
  clear hown2 hb2 hs hx2 hE
  go_wp2_with fail
  have k0 : (w2.setCell ⟨w.heap.size, 0, none⟩ (.slice a 1 c)).cell? ⟨w.heap.size, 0, none⟩ = some (.slice a 1 c) := H2.out.1
  refine bodyPost_ret (v := .tuple #[sV (.slice a ([(97, 122)] : List Rg).length c), .bool true]) (by simp [results, Try.results32, go_sem, k0]) rfl ⟨a, c, rfl, H2.out.2.1, H2.out.2.2⟩
set_option maxHeartbeats 1000000 in
theorem rcat_xl (w : World) : Calls Try.prog 32 #[.string ⟨#[76]⟩] w fun e w' => ErQ ([(65, 90), (97, 122)], true) w e w' := by
  obtain ⟨x1, x2, hbW⟩ := box2' w (.cells #[.slice none 0 0] 28) (.cells #[.int .i64 65, .int .i64 90, .int .i64 97, .int .i64 122] 58)
  have hsl : Sl .i64 ((w.alloc (.cells #[.slice none 0 0] 28)).alloc (.cells #[.int .i64 65, .int .i64 90, .int .i64 97, .int .i64 122] 58)) (.slice (some ⟨w.heap.size + 1, 0, none⟩) 2 2) [(65, 90), (97, 122)] := sl_lit (l := [(65, 90), (97, 122)]) x2 rfl
  have q1 := rof_r _ _ _ hsl (by simp)
  have HQ : Hid _ := And.intro q1 (And.intro x1 hbW)
  clear q1 x1 x2 hbW hsl
  go_enter Try.func32, Try.ntmps32
  go_wp2_with fail
  refine Calls.mono HQ.out.1 ?_
  rintro e w2 ⟨a, c, rfl, hown2, hb2⟩
  have hs : ofR [(65, 90), (97, 122)] = [(65, 90), (97, 122)] := by decide +kernel
  rw [hs] at hown2 ⊢
  have hx2 := (hb2.block _ (lt_of HQ.out.2.1)).trans HQ.out.2.1
  obtain ⟨c0, f0⟩ := blk1 hx2
  have hwn : w.heap.size < w2.heap.size := lt_of hx2
  have hE := er_end HQ.out.2.1 HQ.out.2.2 hown2 hb2
  have H2 : Hid _ := hE
  clear hown2 hb2 hs hx2 hE
  go_wp2_with fail
  have k0 : (w2.setCell ⟨w.heap.size, 0, none⟩ (.slice a 2 c)).cell? ⟨w.heap.size, 0, none⟩ = some (.slice a 2 c) := H2.out.1
  refine bodyPost_ret (v := .tuple #[sV (.slice a ([(65, 90), (97, 122)] : List Rg).length c), .bool true]) (by simp [results, Try.results32, go_sem, k0]) rfl ⟨a, c, rfl, H2.out.2.1, H2.out.2.2⟩
set_option maxHeartbeats 1000000 in
theorem rcat_xnd (w : World) : Calls Try.prog 32 #[.string ⟨#[78, 100]⟩] w fun e w' => ErQ ([(48, 57)], true) w e w' := by
  obtain ⟨x1, x2, hbW⟩ := box2' w (.cells #[.slice none 0 0] 28) (.cells #[.int .i64 48, .int .i64 57] 58)
  have hsl : Sl .i64 ((w.alloc (.cells #[.slice none 0 0] 28)).alloc (.cells #[.int .i64 48, .int .i64 57] 58)) (.slice (some ⟨w.heap.size + 1, 0, none⟩) 1 1) [(48, 57)] := sl_lit (l := [(48, 57)]) x2 rfl
  have q1 := rof_r _ _ _ hsl (by simp)
  have HQ : Hid _ := And.intro q1 (And.intro x1 hbW)
  clear q1 x1 x2 hbW hsl
  go_enter Try.func32, Try.ntmps32
  go_wp2_with fail
  refine Calls.mono HQ.out.1 ?_
  rintro e w2 ⟨a, c, rfl, hown2, hb2⟩
  have hs : ofR [(48, 57)] = [(48, 57)] := by decide +kernel
  rw [hs] at hown2 ⊢
  have hx2 := (hb2.block _ (lt_of HQ.out.2.1)).trans HQ.out.2.1
  obtain ⟨c0, f0⟩ := blk1 hx2
  have hwn : w.heap.size < w2.heap.size := lt_of hx2
  have hE := er_end HQ.out.2.1 HQ.out.2.2 hown2 hb2
  have H2 : Hid _ := hE
  clear hown2 hb2 hs hx2 hE
  go_wp2_with fail
  have k0 : (w2.setCell ⟨w.heap.size, 0, none⟩ (.slice a 1 c)).cell? ⟨w.heap.size, 0, none⟩ = some (.slice a 1 c) := H2.out.1
  refine bodyPost_ret (v := .tuple #[sV (.slice a ([(48, 57)] : List Rg).length c), .bool true]) (by simp [results, Try.results32, go_sem, k0]) rfl ⟨a, c, rfl, H2.out.2.1, H2.out.2.2⟩
set_option maxHeartbeats 1000000 in
theorem rcat_xn (w : World) : Calls Try.prog 32 #[.string ⟨#[78]⟩] w fun e w' => ErQ ([(48, 57)], true) w e w' := by
  obtain ⟨x1, x2, hbW⟩ := box2' w (.cells #[.slice none 0 0] 28) (.cells #[.int .i64 48, .int .i64 57] 58)
  have hsl : Sl .i64 ((w.alloc (.cells #[.slice none 0 0] 28)).alloc (.cells #[.int .i64 48, .int .i64 57] 58)) (.slice (some ⟨w.heap.size + 1, 0, none⟩) 1 1) [(48, 57)] := sl_lit (l := [(48, 57)]) x2 rfl
  have q1 := rof_r _ _ _ hsl (by simp)
  have HQ : Hid _ := And.intro q1 (And.intro x1 hbW)
  clear q1 x1 x2 hbW hsl
  go_enter Try.func32, Try.ntmps32
  go_wp2_with fail
  refine Calls.mono HQ.out.1 ?_
  rintro e w2 ⟨a, c, rfl, hown2, hb2⟩
  have hs : ofR [(48, 57)] = [(48, 57)] := by decide +kernel
  rw [hs] at hown2 ⊢
  have hx2 := (hb2.block _ (lt_of HQ.out.2.1)).trans HQ.out.2.1
  obtain ⟨c0, f0⟩ := blk1 hx2
  have hwn : w.heap.size < w2.heap.size := lt_of hx2
  have hE := er_end HQ.out.2.1 HQ.out.2.2 hown2 hb2
  have H2 : Hid _ := hE
  clear hown2 hb2 hs hx2 hE
  go_wp2_with fail
  have k0 : (w2.setCell ⟨w.heap.size, 0, none⟩ (.slice a 1 c)).cell? ⟨w.heap.size, 0, none⟩ = some (.slice a 1 c) := H2.out.1
  refine bodyPost_ret (v := .tuple #[sV (.slice a ([(48, 57)] : List Rg).length c), .bool true]) (by simp [results, Try.results32, go_sem, k0]) rfl ⟨a, c, rfl, H2.out.2.1, H2.out.2.2⟩
set_option maxHeartbeats 1000000 in
theorem rcat_xz (w : World) : Calls Try.prog 32 #[.string ⟨#[90]⟩] w fun e w' => ErQ ([(32, 32), (160, 160)], true) w e w' := by
  obtain ⟨x1, x2, hbW⟩ := box2' w (.cells #[.slice none 0 0] 28) (.cells #[.int .i64 32, .int .i64 32, .int .i64 160, .int .i64 160] 58)
  have hsl : Sl .i64 ((w.alloc (.cells #[.slice none 0 0] 28)).alloc (.cells #[.int .i64 32, .int .i64 32, .int .i64 160, .int .i64 160] 58)) (.slice (some ⟨w.heap.size + 1, 0, none⟩) 2 2) [(32, 32), (160, 160)] := sl_lit (l := [(32, 32), (160, 160)]) x2 rfl
  have q1 := rof_r _ _ _ hsl (by simp)
  have HQ : Hid _ := And.intro q1 (And.intro x1 hbW)
  clear q1 x1 x2 hbW hsl
  go_enter Try.func32, Try.ntmps32
  go_wp2_with fail
  refine Calls.mono HQ.out.1 ?_
  rintro e w2 ⟨a, c, rfl, hown2, hb2⟩
  have hs : ofR [(32, 32), (160, 160)] = [(32, 32), (160, 160)] := by decide +kernel
  rw [hs] at hown2 ⊢
  have hx2 := (hb2.block _ (lt_of HQ.out.2.1)).trans HQ.out.2.1
  obtain ⟨c0, f0⟩ := blk1 hx2
  have hwn : w.heap.size < w2.heap.size := lt_of hx2
  have hE := er_end HQ.out.2.1 HQ.out.2.2 hown2 hb2
  have H2 : Hid _ := hE
  clear hown2 hb2 hs hx2 hE
  go_wp2_with fail
  have k0 : (w2.setCell ⟨w.heap.size, 0, none⟩ (.slice a 2 c)).cell? ⟨w.heap.size, 0, none⟩ = some (.slice a 2 c) := H2.out.1
  refine bodyPost_ret (v := .tuple #[sV (.slice a ([(32, 32), (160, 160)] : List Rg).length c), .bool true]) (by simp [results, Try.results32, go_sem, k0]) rfl ⟨a, c, rfl, H2.out.2.1, H2.out.2.2⟩
set_option maxHeartbeats 1000000 in
theorem rcat_xc (w : World) : Calls Try.prog 32 #[.string ⟨#[67]⟩] w fun e w' => ErQ ([(0, 31), (127, 159)], true) w e w' := by
  obtain ⟨x1, x2, hbW⟩ := box2' w (.cells #[.slice none 0 0] 28) (.cells #[.int .i64 0, .int .i64 31, .int .i64 127, .int .i64 159] 58)
  have hsl : Sl .i64 ((w.alloc (.cells #[.slice none 0 0] 28)).alloc (.cells #[.int .i64 0, .int .i64 31, .int .i64 127, .int .i64 159] 58)) (.slice (some ⟨w.heap.size + 1, 0, none⟩) 2 2) [(0, 31), (127, 159)] := sl_lit (l := [(0, 31), (127, 159)]) x2 rfl
  have q1 := rof_r _ _ _ hsl (by simp)
  have HQ : Hid _ := And.intro q1 (And.intro x1 hbW)
  clear q1 x1 x2 hbW hsl
  go_enter Try.func32, Try.ntmps32
  go_wp2_with fail
  refine Calls.mono HQ.out.1 ?_
  rintro e w2 ⟨a, c, rfl, hown2, hb2⟩
  have hs : ofR [(0, 31), (127, 159)] = [(0, 31), (127, 159)] := by decide +kernel
  rw [hs] at hown2 ⊢
  have hx2 := (hb2.block _ (lt_of HQ.out.2.1)).trans HQ.out.2.1
  obtain ⟨c0, f0⟩ := blk1 hx2
  have hwn : w.heap.size < w2.heap.size := lt_of hx2
  have hE := er_end HQ.out.2.1 HQ.out.2.2 hown2 hb2
  have H2 : Hid _ := hE
  clear hown2 hb2 hs hx2 hE
  go_wp2_with fail
  have k0 : (w2.setCell ⟨w.heap.size, 0, none⟩ (.slice a 2 c)).cell? ⟨w.heap.size, 0, none⟩ = some (.slice a 2 c) := H2.out.1
  refine bodyPost_ret (v := .tuple #[sV (.slice a ([(0, 31), (127, 159)] : List Rg).length c), .bool true]) (by simp [results, Try.results32, go_sem, k0]) rfl ⟨a, c, rfl, H2.out.2.1, H2.out.2.2⟩
set_option maxHeartbeats 1000000 in
theorem rcat_xp (w : World) : Calls Try.prog 32 #[.string ⟨#[80]⟩] w fun e w' => ErQ (pL, true) w e w' := by
  have x0 := nw_heap w (.cells #[.slice none 0 0] 28)
  have b0 : Below w.heap.size w (w.alloc (.cells #[.slice none 0 0] 28)) := (Below.refl _ _).alloc (Nat.le_refl _) _
  have q0 := letters_r ⟨#[33, 34, 35, 37, 38, 39, 40, 41, 42, 44, 45, 46, 47, 58, 59, 63, 64, 91, 92, 93, 95, 123, 125]⟩ (w.alloc (.cells #[.slice none 0 0] 28)) (by decide)
  have H0 : Hid _ := And.intro q0 (And.intro x0 b0)
  clear q0 x0 b0
  go_enter Try.func32, Try.ntmps32
  go_wp2_with fail
  refine Calls.mono H0.out.1 ?_
  rintro e w1 ⟨a1, c1, rfl, hown1, hb1⟩
  have x1 := (hb1.block _ (lt_of H0.out.2.1)).trans H0.out.2.1
  have b1 := H0.out.2.2.trans (hb1.mono H0.out.2.2.size)
  have q1 := rof_r _ _ w1 hown1.sl (by decide)
  have HQ : Hid _ := And.intro q1 (And.intro x1 b1)
  clear q1 x1 b1 hown1 hb1 H0
  go_wp2_with fail
  refine Calls.mono HQ.out.1 ?_
  rintro e w2 ⟨a, c, rfl, hown2, hb2⟩
  have hs : ofR (txL (⟨#[33, 34, 35, 37, 38, 39, 40, 41, 42, 44, 45, 46, 47, 58, 59, 63, 64, 91, 92, 93, 95, 123, 125]⟩ : ByteArray).data.toList) = pL := by decide +kernel
  rw [hs] at hown2 ⊢
  have hx2 := (hb2.block _ (lt_of HQ.out.2.1)).trans HQ.out.2.1
  obtain ⟨c0, f0⟩ := blk1 hx2
  have hwn : w.heap.size < w2.heap.size := lt_of hx2
  have hE := er_end HQ.out.2.1 HQ.out.2.2 hown2 hb2
  have H2 : Hid _ := hE
  clear hown2 hb2 hs hx2 hE
  go_wp2_with fail
  have k0 : (w2.setCell ⟨w.heap.size, 0, none⟩ (.slice a pL.length c)).cell? ⟨w.heap.size, 0, none⟩ = some (.slice a pL.length c) := H2.out.1
  refine bodyPost_ret (v := .tuple #[sV (.slice a (pL : List Rg).length c), .bool true]) (by simp [results, Try.results32, go_sem, k0]) rfl ⟨a, c, rfl, H2.out.2.1, H2.out.2.2⟩
set_option maxHeartbeats 1000000 in
theorem rcat_xs (w : World) : Calls Try.prog 32 #[.string ⟨#[83]⟩] w fun e w' => ErQ ([(36, 36), (43, 43), (60, 62), (94, 94), (96, 96), (124, 124), (126, 126)], true) w e w' := by
  obtain ⟨i58, z58, hi58, hz0, hzc, hz1, hz3⟩ := info_rrp
  have x0 := nw_heap w (.cells #[.slice none 0 0] 28)
  have b0 : Below w.heap.size w (w.alloc (.cells #[.slice none 0 0] 28)) := (Below.refl _ _).alloc (Nat.le_refl _) _
  have q0 := letters_r ⟨#[36, 43, 60, 61, 62, 94, 124, 126]⟩ (w.alloc (.cells #[.slice none 0 0] 28)) (by decide)
  have H0 : Hid _ := And.intro q0 (And.intro x0 b0)
  clear q0 x0 b0
  go_enter Try.func32, Try.ntmps32
  go_wp2_with fail
  refine Calls.mono H0.out.1 ?_
  rintro e w1 ⟨a1, c1, rfl, hown1, hb1⟩
  have x1 := (hb1.block _ (lt_of H0.out.2.1)).trans H0.out.2.1
  have b1 := H0.out.2.2.trans (hb1.mono H0.out.2.2.size)
  have hlt1 := lt_of H0.out.2.1
  have H1 : Hid _ := And.intro hown1 (And.intro x1 (And.intro b1 (And.intro hlt1 hb1)))
  clear x1 b1 hown1 hb1 hlt1
  go_wp2_with (first | (at_builtin; go_loud (refine wpList_put w1 .i64 58 26 i58 z58 16 Try.underlying26 hi58 hz0 hzc hz1 hz3 (by decide) (.tmp 33) (.tmp 35) rfl rfl (w.alloc (.cells #[.slice none 0 0] 28)).heap.size (.slice a1 (txL (⟨#[36, 43, 60, 61, 62, 94, 124, 126]⟩ : ByteArray).data.toList).length c1) (txL (⟨#[36, 43, 60, 61, 62, 94, 124, 126]⟩ : ByteArray).data.toList) rfl H1.out.1 (96, 96) rfl (by decide) H1.out.2.2.2.2.size ?_); intro v' w7 hown7 hb7 hv7; obtain ⟨g7, c7, rfl⟩ := hv7; have q1 := rof_r _ _ w7 hown7.sl (by decide); have x7 := hb7.2.at H1.out.2.1 (fun q => by have := (row_base H1.out.1 _ q).1; have := H1.out.2.2.2.1; omega); have b7 := H1.out.2.2.1.trans (hb7.1.mono (Nat.le_of_lt H1.out.2.2.2.1)); have HQ : Hid _ := And.intro q1 (And.intro x7 b7); clear q1 x7 b7 hown7 hb7))
  refine Calls.mono HQ.out.1 ?_
  rintro e w2 ⟨a, c, rfl, hown2, hb2⟩
  have hs : ofR (txL (⟨#[36, 43, 60, 61, 62, 94, 124, 126]⟩ : ByteArray).data.toList ++ [(96, 96)]) = [(36, 36), (43, 43), (60, 62), (94, 94), (96, 96), (124, 124), (126, 126)] := by decide +kernel
  rw [hs] at hown2 ⊢
  have hx2 := (hb2.block _ (lt_of HQ.out.2.1)).trans HQ.out.2.1
  obtain ⟨c0, f0⟩ := blk1 hx2
  have hwn : w.heap.size < w2.heap.size := lt_of hx2
  have hE := er_end HQ.out.2.1 HQ.out.2.2 hown2 hb2
  have H2 : Hid _ := hE
  clear hown2 hb2 hs hx2 hE
  go_wp2_with fail
  have k0 : (w2.setCell ⟨w.heap.size, 0, none⟩ (.slice a 7 c)).cell? ⟨w.heap.size, 0, none⟩ = some (.slice a 7 c) := H2.out.1
  refine bodyPost_ret (v := .tuple #[sV (.slice a ([(36, 36), (43, 43), (60, 62), (94, 94), (96, 96), (124, 124), (126, 126)] : List Rg).length c), .bool true]) (by simp [results, Try.results32, go_sem, k0]) rfl ⟨a, c, rfl, H2.out.2.1, H2.out.2.2⟩
set_option maxHeartbeats 1000000 in
theorem rcat_no (s : ByteArray) (w : World) (h0 : s.data.toList ≠ [76, 117]) (h1 : s.data.toList ≠ [76, 108]) (h2 : s.data.toList ≠ [76]) (h3 : s.data.toList ≠ [78, 100]) (h4 : s.data.toList ≠ [78]) (h5 : s.data.toList ≠ [80]) (h6 : s.data.toList ≠ [83]) (h7 : s.data.toList ≠ [90]) (h8 : s.data.toList ≠ [67]) : Calls Try.prog 32 #[.string s] w fun e w' => ErQ ([], false) w e w' := by
  have g0 : (s.toList == [76, 117]) = false := by rw [ByteArray.toList_eq]; simpa using h0
  have g1 : (s.toList == [76, 108]) = false := by rw [ByteArray.toList_eq]; simpa using h1
  have g2 : (s.toList == [76]) = false := by rw [ByteArray.toList_eq]; simpa using h2
  have g3 : (s.toList == [78, 100]) = false := by rw [ByteArray.toList_eq]; simpa using h3
  have g4 : (s.toList == [78]) = false := by rw [ByteArray.toList_eq]; simpa using h4
  have g5 : (s.toList == [80]) = false := by rw [ByteArray.toList_eq]; simpa using h5
  have g6 : (s.toList == [83]) = false := by rw [ByteArray.toList_eq]; simpa using h6
  have g7 : (s.toList == [90]) = false := by rw [ByteArray.toList_eq]; simpa using h7
  have g8 : (s.toList == [67]) = false := by rw [ByteArray.toList_eq]; simpa using h8
  clear h0 h1 h2 h3 h4 h5 h6 h7 h8
  go_enter Try.func32, Try.ntmps32
  go_wp2_with fail
  refine bodyPost_ret (v := .tuple #[sV (.slice none 0 0), .bool false]) (by simp [results, Try.results32, go_sem]) rfl ⟨none, 0, rfl, Own.nil _ _ _ _, ?_⟩
  exact (Below.refl _ _).alloc (Nat.le_refl _) _
theorem rcat_r (s : ByteArray) (w : World) : Calls Try.prog 32 #[.string s] w fun e w' => ErQ (catS s.data.toList) w e w' := by
  have hs : ∀ l : List UInt8, s.data.toList = l → s = ⟨l.toArray⟩ := fun l h => by cases s; subst h; simp
  unfold catS
  by_cases h0 : s.data.toList = [76, 117]
  · rw [if_pos h0, hs _ h0]
    exact rcat_xlu w
  rw [if_neg h0]
  by_cases h1 : s.data.toList = [76, 108]
  · rw [if_pos h1, hs _ h1]
    exact rcat_xll w
  rw [if_neg h1]
  by_cases h2 : s.data.toList = [76]
  · rw [if_pos h2, hs _ h2]
    exact rcat_xl w
  rw [if_neg h2]
  by_cases h3 : s.data.toList = [78, 100]
  · rw [if_pos h3, hs _ h3]
    exact rcat_xnd w
  rw [if_neg h3]
  by_cases h4 : s.data.toList = [78]
  · rw [if_pos h4, hs _ h4]
    exact rcat_xn w
  rw [if_neg h4]
  by_cases h5 : s.data.toList = [80]
  · rw [if_pos h5, hs _ h5]
    exact rcat_xp w
  rw [if_neg h5]
  by_cases h6 : s.data.toList = [83]
  · rw [if_pos h6, hs _ h6]
    exact rcat_xs w
  rw [if_neg h6]
  by_cases h7 : s.data.toList = [90]
  · rw [if_pos h7, hs _ h7]
    exact rcat_xz w
  rw [if_neg h7]
  by_cases h8 : s.data.toList = [67]
  · rw [if_pos h8, hs _ h8]
    exact rcat_xc w
  rw [if_neg h8]
  exact rcat_no s w h0 h1 h2 h3 h4 h5 h6 h7 h8
end Go.Proofs.Yteddjjabbehfdaa
