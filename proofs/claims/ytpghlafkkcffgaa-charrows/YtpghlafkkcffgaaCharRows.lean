/- For every row of numbers the statement CharRows answers true and leaves the row as it was; no condition. -/
import Derived.Test.YtpghlafkkcffgaaRows
import Derived.Test.YtpghlafkkcffgaaRowWalk
import Derived.Laws.AppendOwnNone
import Derived.WalkKit
import Derived.ProofKit
import Derived.OpenShut
import Derived.ShutString
import Derived.ChangeOld
import Derived.Below
namespace Go.Proofs.Ytpghlafkkcffgaa.charRows
open Go.ChangeShapes Go.WideShapes Go.ChangeAt Go.RowKit
open Go.ChangeMaps (open_string shut_string)
set_option linter.unusedVariables false

theorem own : ownKnob Try.prog.godebug = none := by kernel_rfl
theorem laidOut : laidOutB Try.prog = true := by kernel_rfl

/-- WHAT THE WALK IS TOLD OF A SLICE OF INTEGERS THAT CAME IN: it is nil; or it leads to a row of 'cap' cells, the numbers 'zs' (the first 'len' are its elements, the rest its spare room), each fitting its kind. -/
def IsRow (k : IntKind) (w : World) (a : Option Addr) (len cap : Nat) (zs : List Int) : Prop :=
  (a = none ∧ len = 0 ∧ cap = 0 ∧ zs = []) ∨
  ∃ x, a = some x ∧ len ≤ cap ∧ cap ≤ maxLen ∧ zs.length = cap ∧ (∀ i, i < zs.length → w.cell? (x.add i) = some (.int k (zs.getD i 0))) ∧ ∀ n ∈ zs, (Lit.int k n).wf = true

theorem row_cells {w : World} {a : Option Addr} {len cap : Nat} {zs : List Int} (h : IsRow .i32 w a len cap zs) :
    (zs.take len).length = len ∧ len ≤ maxLen ∧ (len = 0 ∨ ∃ b o, a = some ⟨b, o, none⟩ ∧ ∀ i, i < len → w.cell? ⟨b, o + i, none⟩ = some (.int .i32 ((zs.take len).getD i 0))) := by
  rcases h with ⟨rfl, rfl, rfl, rfl⟩ | ⟨x, rfl, hl, hm, hz, hcell, hwz⟩
  · exact ⟨rfl, Nat.zero_le _, .inl rfl⟩
  · refine ⟨by simp; omega, by omega, ?_⟩
    by_cases h0 : len = 0
    · exact .inl h0
    · obtain ⟨b, o, spot⟩ := x
      have hc := hcell 0 (by omega)
      have hspot : spot = none := by simpa [Addr.add] using World.cell?_spot hc
      subst hspot
      refine .inr ⟨b, o, rfl, fun i hi => ?_⟩
      have := hcell i (by omega)
      rw [addr_add] at this
      rw [this]
      simp [List.getD_eq_getElem?_getD, hi]

set_option maxHeartbeats 2000000 in
theorem walk_some (b o cap : Nat) (l : List Int) (w : World) (hsm : l.length ≤ 300) (hcl : ∀ i, i < l.length → w.cell? ⟨b, o + i, none⟩ = some (.int .i32 (l.getD i 0))) (hpos : 0 < l.length) :
    Calls Try.prog 5 #[.slice (some ⟨b, o, none⟩) l.length cap] w fun e w' => e = .returned (.bool true) ∧ Below w.heap.size w w' := by
  obtain ⟨i0, hi, hz0, hz1, hz2⟩ := info_parts info5
  obtain ⟨j0, hj, hy0, hy1, hy2⟩ := info_parts info21
  have hblk : b < w.heap.size := World.block_lt_of_cell? w _ (hcl 0 hpos)
  have HCl : Hid _ := hcl
  clear hcl
  go_enter Try.func5, Try.ntmps5
  go_wp2_with (go_at_call 7; refine (known_any _).mono ?_; rintro e w1 ⟨rfl, hb1⟩)
  go_loopw [3, 4, 5, 6] (fun v3 v4 v5 i wr => Rel1 w l v3 v4 v5 i wr) (fun _ _ _ i _ => l.length - (intOf i).toNat)
  case atStart => exact ⟨0, Nat.zero_le _, rfl, rfl, World.ownsRow_nil _ _ _ _, World.ownsRow_nil _ _ _ _, hb1⟩
  case round =>
    obtain ⟨k, hk, rfl, rfl, h3, h5, hbl⟩ := hrel
    have hwl := wants_le (l.take k)
    have hel := encs_le (l.take k)
    have htl : (l.take k).length ≤ k := List.length_take_le _ _
    by_cases hlt : k < l.length
    · have hck : wr.cell? ⟨b, o + k, none⟩ = some (.int .i32 (l.getD k 0)) := (hbl.cell (p := ⟨b, o + k, none⟩) hblk).trans (HCl.out k hlt)
      have HC0 : Hid _ := HCl.out k hlt
      have HE : Hid _ := encs_snoc l k hlt
      have HW : Hid _ := wants_snoc l k hlt
      generalize l.getD k 0 = r at *
      by_cases hz : wid r = 0
      · have HWr : Hid (wants [r] = []) := by show _ = _; simp [wants, hz]
        have HEr : Hid _ := enc0 hz
        have HZ : Hid _ := hz
        have HBl : Hid _ := hbl
        clear hz hbl
        go_wp2_with (first | (go_at_call 14; refine (encode_nil _ _ HZ.out).mono ?_; rintro e w' ⟨rfl, rfl⟩) | (at_builtin; refine wpList_append_own_none rfl (.tmp 31) (.tmp 32) 22 rfl w.heap.size 5 i0 1 Try.underlying22 hi _ _ _ rfl h3 rfl ?_))
        go_roundw
        case rel =>
          refine ⟨k + 1, by omega, by go_num, ?_, ?_, ?_, HBl.out⟩
          · rw [HW.out, HWr.out]; simp
          · rw [HE.out, HEr.out]; simpa using h3
          · rw [HW.out, HWr.out]; simpa using h5
        case measure => simp [intOf]; omega
      · have hlen := enc_len r
        have hel4 := enc_le r
        have hwc := wid_cases r
        have hep : 1 ≤ (enc r).length := by omega
        have HWr : Hid (wants [r] = [r]) := by show _ = _; simp [wants, hz]
        have HL : Hid _ := hlen
        have HZ : Hid _ := hz
        have HBl : Hid _ := hbl
        clear hlen hwc hz hbl
        go_wp2_with fail
        refine (encode_some r _ HZ.out).mono ?_
        rintro e w2 ⟨b2, o2, rfl, hbt2, hbl2⟩
        have h3' := own_below h3 hbl2
        have h5' := own_below h5 hbl2
        have hb2 : Hid (Below w.heap.size w w2) := HBl.out.trans (hbl2.mono HBl.out.size)
        have HN : Hid _ := news_at hbt2
        have hp2 : ((0 : Int) < ((enc r).length : Int)) := by omega
        clear h3 h5 hbl2 hbt2
        go_wp2_with (first | (at_builtin; refine wpList_append_own _ rfl (.tmp 31) (.tmp 32) 22 rfl w.heap.size 5 i0 (.int .u8 0) 1 1 Try.underlying22 hi hz0 hz1 hz2 rfl (by decide) _ _ _ rfl h3' ⟨b2, o2, none⟩ (enc r).length (enc r).length ((enc r).map (Value.int .u8)) rfl (by simp) HN.out u8_cells (by unfold maxLen; omega) (by omega) hb2.out.size ?_; intro v3n w3 h3n hg3 _; have h5n := h5'.kept hg3 (own_ne h5' h3' (by decide)); have hb3 : Hid (Below w.heap.size w w3) := hb2.out.grown hg3 hb2.out.size (fun k hk => (h3'.lt k hk).1); have hck3 := (hb3.out.cell (p := ⟨b, o + k, none⟩) hblk).trans HC0.out; clear h5' h3') | (at_builtin; refine wpList_append_own _ rfl (.tmp 39) (.tmp 44) 36 rfl w.heap.size 21 j0 (.int .i32 0) 1 4 Try.underlying36 hj hy0 hy1 hy2 rfl (by decide) _ _ _ rfl (h5n.alloc _) ⟨w3.heap.size, 0, none⟩ 1 1 [.int .i32 r] rfl rfl (cell_one_new _ _ _) (by intro u hu; simp at hu; subst hu; rfl) (by unfold maxLen; omega) (by omega) (by have := hb3.out.size; simp; omega) ?_; intro v5n w4 h5m hg5 _))
        go_roundw
        case rel =>
          have h3m := (h3n.alloc (.cells #[.int .i32 r] 21)).kept hg5 (own_ne h3n h5n (by decide))
          have hb4 : Below w.heap.size w w4 := (hb3.out.alloc hb3.out.size _).grown hg5 (by have := hb3.out.size; simp; omega) (fun k hk => (h5n.lt k hk).1)
          refine ⟨k + 1, by omega, by go_num, ?_, ?_, ?_, hb4⟩
          · rw [HW.out, HWr.out]; simp
          · rw [HE.out]; simpa using h3m
          · rw [HW.out, HWr.out]; simpa using h5m
        case measure => simp [intOf]; omega
    · have hkl : l.take k = l := List.take_of_length_le (by omega)
      rw [hkl] at h3 h5 hwl hel
      rw [hkl]
      have hew : encs l = encs (wants l) := (encs_wants l).symm
      have hok := wants_ok l
      rw [hew] at h3 hel
      generalize wants l = ws at *
      obtain ⟨ab, capb, rfl, hlb, hcb, hbt, hnb, hsb⟩ := own_any h3 (encs_bd ws)
      obtain ⟨aw, capw, rfl, hcw, hsw⟩ := own_i32 h5
      have hcv : (convert 22 9 (.slice ab (encs ws).length capb)).run Try.prog wr = .ok (.string (sb (encs ws))) wr := conv_bts ab capb _ wr hbt hnb
      have hblen : (sb (encs ws)).size ≤ maxLen := by unfold maxLen; simp [sb, ByteArray.size]; omega
      have hcnt := cnt_encs ws (encs ws).length hok (Nat.le_refl _)
      have hrgt := rgt_encs ws (encs ws).length hok (Nat.le_refl _)
      have HCnt : Hid _ := hcnt
      have HRgt : Hid _ := hrgt
      have HBl : Hid _ := hbl
      have HOk : Hid _ := hok
      have HBt : Hid _ := hbt
      have HSb : Hid _ := hsb
      have HSw : Hid _ := hsw
      clear hcnt hrgt hbl hok hbt hsb hsw h3 h5 hew hkl hnb
      go_wp2_with fail
      refine (count_any _ _ hblen).mono ?_
      rw [bl_sb _ (encs_bd ws), HCnt.out]
      rintro e w2 ⟨rfl, hb2⟩
      have HB2 : Hid _ := HBl.out.trans (hb2.mono HBl.out.size)
      have HBt2 : Hid (Bts w2 ab (encs ws)) := Bts.below HBt.out hb2
      have HSw2 : Hid (0 < ws.length → ∃ g, aw = some ⟨g, 0, none⟩ ∧ ∀ i, i < ws.length → w2.cell? ⟨g, i, none⟩ = some (.int .i32 (ws.getD i 0))) := by
        intro h
        obtain ⟨g, hg, hc⟩ := HSw.out h
        exact ⟨g, hg, fun i hi => (hb2.cell (p := ⟨g, i, none⟩) (World.block_lt_of_cell? wr _ (hc i hi))).trans (hc i hi)⟩
      clear hb2 hcv
      go_wp2
      go_loop [8, 9, 10] (fun at_ ok i => ∃ j : Nat, j ≤ ws.length ∧ i = .int .i64 j ∧ at_ = .int .i64 (encs (ws.take j)).length ∧ ok = .bool ((ws.take j).all isChar)) (fun _ _ i => ws.length - (intOf i).toNat)
      case atStart => exact ⟨0, Nat.zero_le _, rfl, rfl, rfl⟩
      case round =>
        obtain ⟨j, hj, rfl, rfl, rfl⟩ := hrel
        by_cases hjl : j < ws.length
        · obtain ⟨g, rfl⟩ := HSb.out (encs_some ws HOk.out (by omega))
          obtain ⟨gw, rfl, hcw2⟩ := HSw2.out (by omega)
          have hcj := hcw2 j hjl
          have hzr : ¬ wid (ws.getD j 0) = 0 := HOk.out _ (getD_mem ws j hjl)
          have HD : Hid _ := drop_to ws j hjl
          have HT : Hid _ := take_snoc ws j hjl
          have hlt2 := take_lt ws j HOk.out hjl
          have hll := take_len ws j hjl
          clear hcw2 HSb HSw2
          generalize ws.getD j 0 = r at *
          have hwc := wid_cases r
          have hw1 : 1 ≤ wid r := by omega
          have hw4 : wid r ≤ 4 := by omega
          have HDec : Hid _ := dec_encs r (ws.drop (j + 1)) hzr
          have HLL : Hid _ := hll
          have hwid : Hid _ := enc_len r
          generalize hA : (encs (ws.take j)).length = A at *
          have HA : Hid _ := hA
          generalize hO : (ws.take j).all isChar = okb at *
          have HO : Hid _ := hO
          have hcp : ¬ capb = A := by omega
          have hAs : A ≤ 1200 := by omega
          have hcb' := hcb
          unfold maxLen at hcb'
          clear hwc hll hzr hA hO
          cases okb
          · go_wp2_with fail
            refine (decode_at0 g A (encs ws) _ capb _ rfl hlb hcb HBt2.out).mono ?_
            rw [HD.out, HDec.out]
            rintro e w3 ⟨rfl, rfl⟩
            go_wp2_with (go_at_call 16; refine (char_any _ _).mono ?_; rintro e w' ⟨rfl, rfl⟩)
            go_round
            case rel =>
              refine ⟨j + 1, by omega, by go_num, ?_, ?_⟩
              · rw [HLL.out, Int.natCast_add, hwid.out]
              · rw [HT.out, List.all_append, HO.out]; rfl
            case measure => simp [intOf]; omega
          · go_wp2_with fail
            refine (decode_at0 g A (encs ws) _ capb _ rfl hlb hcb HBt2.out).mono ?_
            rw [HD.out, HDec.out]
            rintro e w3 ⟨rfl, rfl⟩
            go_wp2_with (go_at_call 16; refine (char_any _ _).mono ?_; rintro e w' ⟨rfl, rfl⟩)
            go_round
            case rel =>
              refine ⟨j + 1, by omega, by go_num, ?_, ?_⟩
              · rw [HLL.out, Int.natCast_add, hwid.out]
              · rw [HT.out, List.all_append, HO.out]; simp
            case measure => simp [intOf]; omega
        · have hjt : ws.take j = ws := List.take_of_length_le (by omega)
          rw [hjt]
          have hr := right_any ab (encs ws) capb w2 hlb hcb HBt2.out
          rw [show (rgt (encs ws).length (encs ws)) = ((rgt (encs ws).length (encs ws)).1, ws.all isChar) from by rw [← HRgt.out]] at hr
          have HR : Hid _ := hr
          clear hr hjt HSb HSw2 hlb hcb hcw
          go_wp2_with fail
          refine Calls.mono HR.out ?_
          rintro e w3 ⟨rfl, rfl⟩
          go_wp2
          go_ret
          exact ⟨rfl, HB2.out⟩

set_option maxHeartbeats 1000000 in
theorem walk_zero (a : Option Addr) (cap : Nat) (w : World) :
    Calls Try.prog 5 #[.slice a 0 cap] w fun e w' => e = .returned (.bool true) ∧ Below w.heap.size w w' := by
  have hcv := conv_nil
  go_enter Try.func5, Try.ntmps5
  go_wp2_with (go_at_call 7; refine (known_any _).mono ?_; rintro e w1 ⟨rfl, hb1⟩)
  refine wp_loop_rounds 1 ?_
  rw [rounds_succ]
  go_wp2_with fail
  refine (count_any _ _ (by decide)).mono ?_
  rw [show cnt (bl ⟨#[]⟩).length (bl ⟨#[]⟩) = 0 from rfl]
  rintro e w2 ⟨rfl, hb2⟩
  go_wp2
  refine wp_loop_rounds 1 ?_
  rw [rounds_succ]
  go_wp2_with fail
  refine (right_none _ _ _).mono ?_
  rintro e w3 ⟨rfl, rfl⟩
  go_wp2
  go_ret
  exact ⟨rfl, hb1.trans (hb2.mono hb1.size)⟩

set_option maxHeartbeats 400000 in
theorem walk_big (a : Option Addr) (len cap : Nat) (w : World) (h : 300 < len) :
    Calls Try.prog 5 #[.slice a len cap] w fun e w' => e = .returned (.bool true) ∧ Below w.heap.size w w' := by
  go_enter Try.func5, Try.ntmps5
  go_wp2_with (go_at_call 7; refine (known_any _).mono ?_; rintro e w1 ⟨rfl, hb1⟩)
  go_ret
  exact ⟨rfl, hb1⟩

theorem walk (a0 : Option Addr) (len0 cap0 : Nat) (z0 : List Int) (w : World) (w0 : IsRow .i32 w a0 len0 cap0 z0) :
    Calls Try.prog 5 #[.slice a0 len0 cap0] w fun e w' => e = .returned (.bool true) ∧ Below w.heap.size w w' := by
  obtain ⟨hl, hm, hc⟩ := row_cells w0
  by_cases hbig : 300 < len0
  · exact walk_big a0 len0 cap0 w hbig
  · rcases Nat.eq_zero_or_pos len0 with rfl | hpos
    · exact walk_zero a0 cap0 w
    · rcases hc with h0 | ⟨b, o, rfl, hc⟩
      · omega
      · have := walk_some b o cap0 (z0.take len0) w (by rw [hl]; omega) (fun i hi => hc i (by rw [hl] at hi; exact hi)) (by rw [hl]; exact hpos)
        rw [hl] at this
        exact this

/-! ### THE ROW's STEP: WRITTEN OUT: LEAVE IT -/
set_option maxRecDepth 100000 in
theorem lifted (os : Os) (started : os.Started) (H : Type) (enc : TypeId × Value → H) :
    ReturnsInHanded {} Try.checked os 5 .any (Rows.charRowsSpec.pre6 enc Try.prog Try.f5 Rows.charRowsRow.domain false) (Rows.charRowsSpec.post enc Try.prog Try.f5 false true false false) := by
  refine returnsInHanded_of_change (C := Try.checked) own started (by kernel_rfl) Try.func5
    (ChangeSpec.witness6 (enc := enc) (C := Try.checked) false ⟨#[], #[.slice none 0 0], []⟩ 8 (by kernel_rfl) (by kernel_rfl) (by kernel_rfl) (by kernel_rfl)) ?_
  intro W base args ds gs before hval0 hW hcnd _
  have hval : ∀ (j : Nat) t v, Try.f5.params[j]? = some t → args[j]? = some v → Value.okWide Try.prog W .any base t v := hval0
  have hW' := hW
  obtain ⟨p, q, hA0, hV, rfl, hfz, hnd⟩ := hW
  have hA : DataW.TrodAll enc Try.prog W 0 (fun _ => true) true Try.f5.params.toList args.toList ds p := hA0
  rw [Try.params5] at hA hval
  obtain ⟨v0, vs0, d0, ds0, p0, q0, hargs, rfl, rfl, h0, r0⟩ := trodAll_cons hA
  obtain ⟨rfl, rfl, rfl⟩ := trodAll_nil r0
  obtain rfl : args = #[v0] := by cases args; simp_all
  obtain ⟨rfl, rfl⟩ := trodVars_none hV
  obtain ⟨a0, len0, cap0, rfl⟩ := okWide_slice Try.underlying36 (hval 0 36 v0 rfl rfl)
  have k0 := h0
  have lt0 : ∀ x ∈ p0, x.block < W.heap.size := by obtain ⟨m, hm⟩ := k0; exact DataW.trod_lt m _ _ _ hm
  obtain ⟨z0, w0⟩ : ∃ zs, IsRow .i32 W a0 len0 cap0 zs := by
    obtain ⟨fuel, hf⟩ := h0
    rcases open_ints Try.underlying36 Try.underlying21 (by kernel_rfl) hf with ⟨hcs, _⟩ | ⟨x, l, c, zs, hcs, _, hl, hm, hz, _, hcell, hwz⟩
    · simp [Value.cells] at hcs
      obtain ⟨rfl, rfl, rfl⟩ := hcs
      exact ⟨[], .inl ⟨rfl, rfl, rfl, rfl⟩⟩
    · simp [Value.cells] at hcs
      obtain ⟨rfl, rfl, rfl⟩ := hcs
      exact ⟨zs, .inr ⟨_, rfl, hl, hm, by simpa using hz, hcell, hwz⟩⟩
  clear hA0 hval0
  refine (walk a0 len0 cap0 z0 W w0).mono fun e W' ⟨he, bel⟩ => ?_
  subst he
  exact ⟨_, rfl, _, _, _, [], _, [], hW', trodAll_mk1 (shut_bool Try.underlying4 _), (trodAll_cons_mk (Below.trod laidOut (by kernel_rfl) (of_decide_eq_true (by kernel_rfl)) k0 bel lt0) trodAll_mk0), rfl, bel.frame _, fun h => by cases h⟩

theorem over : Rows.charRowsRow.holds Try.pinned (OpenSpec.ofChange Rows.charRowsSpec) :=
  OpenClaim.holds_of_wide 5 Try.f5 rfl rfl rfl rfl rfl rfl rfl ⟨rfl, rfl, rfl, rfl, rfl⟩ rfl rfl rfl rfl rfl (by kernel_rfl) Try.func5 (by kernel_rfl)
    (of_decide_eq_true (by kernel_rfl)) (by unfold Func.isWrapper; first | (rw [if_pos (by decide +kernel)]; kernel_rfl) | (rw [if_neg (by decide +kernel)]; exact ⟨rfl, rfl⟩))
    (fun os started H enc _ => lifted os started H enc)

/-- ████ THE STATEMENT ████ -/
theorem proved : Rows.CharRowsSaid := over
#print axioms proved
end Go.Proofs.Ytpghlafkkcffgaa.charRows
