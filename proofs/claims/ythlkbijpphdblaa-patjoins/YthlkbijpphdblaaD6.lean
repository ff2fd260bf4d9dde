/- fold: the walk, at its two closures. -/
import Derived.Test.YthlkbijpphdblaaZ43
namespace Go.Proofs.Ythlkbijpphdblaa
open Go.RowKit
set_option linter.unusedVariables false

theorem sum_snoc (st : List En) (e : En) : ((st ++ [e]).map enW).sum = (st.map enW).sum + enW e := by simp
theorem en_pos (e : En) : 1 ≤ enW e := by unfold enW; split; omega; rw [wtF_eq]; omega
def InR (w : World) (wk : Nd → List Int → Int) (N : Nat) (ps : List (Nat × Nat)) (ns : List Nd) (i : Nat) (v6 : Value) (w4 wr : World) : Prop := wr.ownsRow w.heap.size 3 1 v6 i (((ns.take i).map (fdF wk)).map (Value.int .i64)) ∧ Fro (fun j => v6.ownBlock = some j ∨ w4.heap.size ≤ j) w4 wr
theorem kid_tr {w : World} {a : Nat × Nat} {n : Nd} (h : TrA w a.1 a.2 n) : Pts w (kidOf w a) n.kds := by
  obtain ⟨vs, ad, cap, c0, c1, c2, c3, c4, hcap, hk⟩ := h.inv
  unfold kidOf Nd.kds
  rw [c0, c4]
  by_cases q : hasK n.kind = true
  · rw [if_pos q]
    rcases hk with e | ⟨kg, ko, rfl, ht⟩
    · rw [e]
      cases ad with
      | none => exact ⟨rfl, fun j hj => by simp at hj⟩
      | some x => exact ⟨by simp, fun j hj => by simp at hj⟩
    · simp only [if_pos q]
      refine ⟨by simp, fun j h1 h2 => ?_⟩
      have := ht j h1
      simpa using this
  · rw [if_neg q]
    cases ad with
    | none => exact ⟨rfl, fun j hj => by simp at hj⟩
    | some x => simp only [if_neg q]; exact ⟨rfl, fun j hj => by simp at hj⟩
theorem kid_below {w w' : World} {a : Nat × Nat} {n : Nd} (hb : Below w.heap.size w w') (h : TrA w a.1 a.2 n) : kidOf w' a = kidOf w a := by
  obtain ⟨arr, ha⟩ := h.nb
  have hl : a.1 < w.heap.size := lt_of ha
  unfold kidOf
  rw [hb.cell (p := ⟨a.1, a.2, none⟩) hl, hb.cell (p := ⟨a.1, a.2 + 4, none⟩) hl]
mutual
theorem fd_nn {wk : Nd → List Int → Int} (h : ∀ n l, (∀ x ∈ l, 0 ≤ x) → 0 ≤ wk n l) : ∀ n, 0 ≤ fdF wk n
  | .nd k s a b ks => by
    show 0 ≤ wk _ (if hasK k = true then fdL wk ks else [])
    refine h _ _ ?_
    split
    · exact fd_nnL h ks
    · simp
theorem fd_nnL {wk : Nd → List Int → Int} (h : ∀ n l, (∀ x ∈ l, 0 ≤ x) → 0 ≤ wk n l) : ∀ l : List Nd, ∀ x ∈ fdL wk l, 0 ≤ x
  | [], x, hx => by simp [fdL] at hx
  | y :: l, x, hx => by
    have hx' : x ∈ fdF wk y :: fdL wk l := hx
    rcases List.mem_cons.1 hx' with q | q
    · rw [q]; exact fd_nn h y
    · exact fd_nnL h l x q
end
theorem kds_le {n : Nd} (h : Sml n) : n.kds.length ≤ 100000 := by
  cases h with
  | mk h _ =>
    unfold Nd.kds
    split
    · exact h
    · simp
/-- What the closure works out. -/
def Wkdp (w : World) (wk : Nd → List Int → Int) : Prop := ∀ (W : World) (g off : Nat) (n : Nd) (v : Value) (l : List Int), Below w.heap.size w W → TrA W g off n → Ints W v l → l = n.kds.map (fdF wk) → wtF n ≤ 1000000 → l.length ≤ 100000 → Calls Try.prog 34 #[ptV (g, off), v] W fun e w' => e = .returned (.int .i64 (wk n l)) ∧ ∃ m, w' = W.drewN m
set_option maxRecDepth 4000 in
set_option maxHeartbeats 8000000 in
theorem fold_dp {w : World} {wk : Nd → List Int → Int} {root : Nat × Nat} {n : Nd} (ht : TrA w root.1 root.2 n) (hs : Sml n) (hwt : wtF n ≤ 1000000) (hw : Wkdp w wk) (hwk : ∀ n, 0 ≤ fdF wk n) : Calls Try.prog 31 #[ptV root, .func (.func 34) #[] #[]] w fun e w' => e = .returned (.int .i64 (fdF wk n)) ∧ Below w.heap.size w w' := by
  obtain ⟨i71, z71, hi71, hz0, hzc, hz1, hz3⟩ := info_npp
  obtain ⟨i3, z3, hi3, iz0, izc, iz1, iz3⟩ := info_inp
  obtain ⟨r1, r2⟩ := root
  have HT : Hid _ := And.intro ht (And.intro hs (And.intro hw hwk))
  have xM := nw_heap w (.map #[] 0)
  have bM : Below w.heap.size w (w.alloc (.map #[] 0)) := (Below.refl _ _).alloc (Nat.le_refl _) _
  have hM := PMap.new w
  have b1 : Below (w.alloc (.map #[] 0)).heap.size (w.alloc (.map #[] 0)) ((w.alloc (.map #[] 0)).alloc (.cells #[ptV (r1, r2)] 71)) := (Below.refl _ _).alloc (Nat.le_refl _) _
  have hst : FoR w wk (r1, r2) (wtF n) (.slice none 0 0) (.slice (some ⟨w.heap.size + 1, 0, none⟩) 1 1) ((w.alloc (.map #[] 0)).alloc (.cells #[ptV (r1, r2)] 71)) [⟨(r1, r2), n, false⟩] (fun _ => none) 0 [] := by
    refine ⟨⟨rfl, .inr ⟨w.heap.size + 1, 1, #[ptV (r1, r2)], rfl, by omega, ?_, Nat.le_refl _, by decide, rfl, rfl⟩⟩, ⟨rfl, .inl ⟨rfl, rfl⟩⟩, ?_, fo_start ht hs, by simp [enW], bM.trans (b1.mono bM.size), fun e he => by simp at he; subst he; exact hwt⟩
    · have := nw_heap (w.alloc (.map #[] 0)) (.cells #[ptV (r1, r2)] 71)
      rw [sza] at this
      exact this
    · exact hM.keep (Fro.below (O := fun _ => False) b1) (fun q => q) (fun _ _ _ q => q)
  have H0 : Hid _ := hst
  clear ht hs hw hwk hst hM xM bM b1
  have hmm := @run_makeMap Try.prog
  go_enter Try.func31, Try.ntmps31
  go_wp2_with fail
  go_loopg [6, 7] (wtF n) (fun g v6 v7 wr => ∃ st F k6 xs, FoR w wk (r1, r2) g v6 v7 wr st F k6 xs ∧ g ≤ wtF n)
  case atStart => exact ⟨_, _, _, _, H0.out, Nat.le_refl _⟩
  case round =>
    obtain ⟨st, F, k6, xs, hR, hgn⟩ := hrel
    clear H0
    obtain ⟨va, vc, rfl⟩ := row_form hR.row
    obtain ⟨na, nc, rfl⟩ := row_form hR.num
    have hln := en_len st
    have hsum := hR.sum
    rcases List.eq_nil_or_concat st with rfl | ⟨st', e, rfl⟩
    · have hF := fo_end hR.fo HT.out.1
      have hlk := look_p hR.map (HT.out.1.below hR.bel).nb false
      rw [hF, if_neg (by decide)] at hlk
      simp only [Option.getD_some] at hlk
      have H1 : Hid _ := hR.bel
      clear hR hF
      go_wp2_with fail
      go_ret
      exact ⟨rfl, H1.out⟩
    · rw [List.concat_eq_append] at *
      obtain ⟨S, hS⟩ : ∃ S, st'.length = S := ⟨_, rfl⟩
      have HSL : Hid _ := hS
      have hSl : (st' ++ [e]).length = S + 1 := by simp [hS]
      have hrow := hR.row
      rw [hSl] at hrow hln ⊢
      rw [List.map_append] at hrow
      have htr := hR.fo.tr e (by simp)
      have hnb := (htr.1.below hR.bel).nb
      have hwe := hR.wt e (by simp)
      have HWS : Hid (∀ e ∈ st', wtF e.n ≤ 1000000) := fun x hx => hR.wt x (by simp [hx])
      obtain ⟨g7, cap7, hv7, hbg7, hg7, hc7⟩ : ∃ g cap, Value.slice va (S + 1) vc = .slice (some ⟨g, 0, none⟩) (S + 1) cap ∧ w.heap.size ≤ g ∧ g < wr.heap.size ∧ S + 1 ≤ cap := by
        rcases hrow.2 with ⟨q, h0⟩ | ⟨g, cap, cur, q, h3, h4, h5, _⟩
        · omega
        · exact ⟨g, cap, q, h3, lt_of h4, h5⟩
      simp only [Value.slice.injEq] at hv7
      obtain ⟨rfl, _, rfl⟩ := hv7
      have hcell := hrow.cells (g := g7) rfl S (ptV e.a) (by rw [List.getElem?_append_right (by simp [hS])]; simp [hS])
      rw [addr_add, Nat.zero_add] at hcell
      have hpop := row_pop (xs := st'.map fun e => ptV e.a) hrow (by simp [hS])
      have hss := sum_snoc st' e
      rw [hss] at hsum
      obtain ⟨ea, en, em⟩ := e
      obtain ⟨e1, e2⟩ := ea
      have HWT : Hid (wtF en ≤ 1000000) := hwe
      clear hwe
      have hlk := look_p hR.map hnb true
      rw [if_pos rfl] at hlk
      have hSb : S ≤ 1000000 := by have := en_pos ⟨(e1, e2), en, em⟩; have := en_len st'; omega
      cases hF : F ⟨e1, e2, none⟩ with
      | none =>
        rw [hF] at hlk
        simp only [Option.getD_none, Option.isSome_none] at hlk
        obtain ⟨w2, hup, hM2, hg2⟩ := upd_p hR.map hnb (-1)
        have hb2 : Below w.heap.size w w2 := hR.bel.grown hg2 hR.bel.size (fun j hj => by simp at hj; omega)
        have hk := kids_p (htr.1.below hb2) htr.2
        have hfg : Fro (fun j => j = w.heap.size) wr w2 := Fro.grown hg2 (fun k q => by simpa using q.symm)
        have hr2 := row_keep hrow hfg (fun k q q2 => row_nm hrow hR.map (by rw [q, q2]))
        have hn2 := row_keep hR.num hfg (fun k q q2 => row_nm hR.num hR.map (by rw [q, q2]))
        have H2 : Hid _ := And.intro hk (And.intro hr2 (And.intro hn2 (And.intro hM2 (And.intro hb2 hR.fo))))
        have hem : em = false := by
          cases hm : em with
          | false => rfl
          | true =>
            have := (hR.fo.mark st'.length (by simp) (by simp [hm])).1
            simp at this
            rw [hF] at this
            cases this
        clear hk hr2 hn2 hM2 hb2 hfg hg2 hnb htr hrow hpop hss hR hS hSl
        go_wp2_with fail
        refine Calls.mono H2.out.1 ?_
        rintro e w3 ⟨kv, ps, rfl, hps, hpt, hkr, hb3⟩
        obtain ⟨ka, kc, rfl⟩ := row_form hkr
        have hps' : ps = kidOf w (e1, e2) := by rw [hps]; exact kid_below H2.out.2.2.2.2.1 (H2.out.2.2.2.2.2.tr ⟨(e1, e2), en, em⟩ (by simp)).1
        have hpt' : Pts w ps en.kds := ⟨hpt.len, fun j h1 h2 => by
          have tr0 := (H2.out.2.2.2.2.2.tr ⟨(e1, e2), en, em⟩ (by simp)).1
          have hq := kid_tr tr0
          rw [← hps'] at hq
          exact hq.tr j h1 h2⟩
        have hop := fo_open H2.out.2.2.2.2.2 hF hps' hpt'
        have hr3 := row_keep H2.out.2.1 (Fro.below (O := fun _ => False) hb3) (fun _ _ q => q)
        have hn3 := row_keep H2.out.2.2.1 (Fro.below (O := fun _ => False) hb3) (fun _ _ q => q)
        have hM3 := H2.out.2.2.2.1.keep (Fro.below (O := fun _ => False) hb3) (fun q => q) (fun _ _ _ q => q)
        have hb03 := H2.out.2.2.2.2.1.trans (hb3.mono H2.out.2.2.2.2.1.size)
        have hsrc : en.kds.length = 0 ∨ ∃ ad', ka = some ad' ∧ ∀ j u, (ps.map ptV)[j]? = some u → w3.cell? (ad'.add j) = some u := by
          rcases hkr.2 with ⟨_, q⟩ | ⟨gk, capk, cur, q, _⟩
          · exact .inl q
          · simp only [Value.slice.injEq] at q
            obtain ⟨rfl, _, rfl⟩ := q
            exact .inr ⟨_, rfl, fun j u hu => hkr.cells (g := gk) rfl j u hu⟩
        have hml : (ps.map ptV).length = en.kds.length := by rw [List.length_map, hpt.len]
        have hone : ∀ u ∈ ps.map ptV, u.oneCell' = true := fun u hu => by
          rw [List.mem_map] at hu
          obtain ⟨p, _, rfl⟩ := hu
          rfl
        have hkl : en.kds.length ≤ 100000 := kds_le (H2.out.2.2.2.2.2.tr ⟨(e1, e2), en, em⟩ (by simp)).2
        have H3 : Hid _ := And.intro hr3 (And.intro hn3 (And.intro hM3 (And.intro hb03 (And.intro hop (And.intro hsrc (And.intro hml hone))))))
        obtain ⟨KL, hKL⟩ : ∃ KL, en.kds.length = KL := ⟨_, rfl⟩
        have HKL : Hid _ := hKL
        rw [hKL] at H3 hkl ⊢
        clear hps hpt hkr hb3 hps' hpt' hop hr3 hn3 hM3 hb03 hsrc hml hone hKL H2
        go_wp2_with (first | (at_builtin; go_loud (refine wpList_ap w3 71 85 i71 z71 Try.underlying85 hi71 hz0 hzc hz1 hz3 (.tmp 35) (.tmp 37) rfl rfl w.heap.size (.slice (some ⟨g7, 0, none⟩) (S + 1) vc) (S + 1) _ rfl H3.out.1 ka KL kc (ps.map ptV) rfl H3.out.2.2.2.2.2.2.1 H3.out.2.2.2.2.2.1 H3.out.2.2.2.2.2.2.2 (by omega) H3.out.2.2.2.1.size ?_); intro v4 w4 hr4 hf4 hq4; have H4 : Hid _ := And.intro hr4 hf4; clear hr4 hf4 hq4))
        obtain ⟨g, rfl⟩ : ∃ g, gk = g + 1 := ⟨gk - 1, by have := en_pos ⟨(e1, e2), en, em⟩; omega⟩
        go_roundg g
        case measure => omega
        case rel =>
          have hbw : Below w.heap.size w w4 := H3.out.2.2.2.1.trans (H4.out.2.toBelow H3.out.2.2.2.1.size (fun i hi q => by simp [Value.ownBlock] at q; omega))
          refine ⟨_, _, k6, xs, ⟨?_, row_keep H3.out.2.1 H4.out.2 (fun k q q2 => row_ne H3.out.1 H3.out.2.1 (by decide) k q2 q), H3.out.2.2.1.keep H4.out.2 (fun q => row_nm H3.out.1 H3.out.2.2.1 q) (fun k arr hk q => row_nd H3.out.1 (by decide) hk q), H3.out.2.2.2.2.1.1, ?_, hbw, ?_⟩, by omega⟩
          · have hm1 : ∀ (ps : List (Nat × Nat)) (ns : List Nd), ps.length = ns.length → ((ps.zip ns).map (fun p => (⟨p.1, p.2, false⟩ : En))).map (fun e => ptV e.a) = ps.map ptV := fun ps ns hl => by
              rw [List.map_map]
              have h2 : ((fun e : En => ptV e.a) ∘ fun p : (Nat × Nat) × Nd => (⟨p.1, p.2, false⟩ : En)) = fun p => ptV p.1 := by funext p; rfl
              rw [h2]
              have h3 : (ps.zip ns).map (fun p => ptV p.1) = ((ps.zip ns).map Prod.fst).map ptV := by rw [List.map_map]; rfl
              rw [h3, List.map_fst_zip (by omega)]
            have hl1 : ps.length = en.kds.length := by have := H3.out.2.2.2.2.2.2.1; rw [List.length_map] at this; rw [this]; exact HKL.out.symm
            have hl2 : (st' ++ [(⟨(e1, e2), en, true⟩ : En)] ++ (ps.zip en.kds).map (fun p => (⟨p.1, p.2, false⟩ : En))).length = S + 1 + KL := by
              simp [HSL.out, hl1, HKL.out]
              omega
            rw [hl2, List.map_append, List.map_append, hm1 ps en.kds hl1]
            exact H4.out.1
          · have := H3.out.2.2.2.2.1.2
            have hwe : enW ⟨(e1, e2), en, em⟩ = wtF en := by rw [hem]; rfl
            rw [hwe] at hsum
            rw [List.map_append, List.map_append, List.sum_append, List.sum_append]
            have e1' : (List.map enW [(⟨(e1, e2), en, true⟩ : En)]).sum = 1 := rfl
            rw [e1']
            omega
          · intro x hx
            rcases List.mem_append.1 hx with hx | hx
            · rcases List.mem_append.1 hx with hx | hx
              · exact HWS.out x hx
              · simp at hx
                subst hx
                exact HWT.out
            · rw [List.mem_map] at hx
              obtain ⟨p, hp, rfl⟩ := hx
              have := wt_kid (List.of_mem_zip hp).2
              have h2 := HWT.out
              show wtF p.2 ≤ 1000000
              omega
      | some v =>
        rw [hF] at hlk
        simp only [Option.getD_some, Option.isSome_some] at hlk
        obtain ⟨g, rfl⟩ : ∃ g, gk = g + 1 := ⟨gk - 1, by have := en_pos ⟨(e1, e2), en, em⟩; omega⟩
        by_cases hv : v = -1
        · subst hv
          have hw0 : 0 ≤ fdF wk en := HT.out.2.2.2 en
          have hdn := fo_done hR.fo hF hw0
          have hk := kids_p (htr.1.below hR.bel) htr.2
          have hcut := row_cut hR.num
          have hkl : en.kds.length ≤ 100000 := kds_le htr.2
          have H2 : Hid _ := And.intro hk (And.intro hpop (And.intro hcut (And.intro hR.map (And.intro hR.bel (And.intro hdn (And.intro htr.1 (And.intro hR.fo hrow)))))))
          clear hk hnb htr hrow hpop hss hR hS hSl hcut hdn
          go_wp2_with fail
          refine Calls.mono H2.out.1 ?_
          rintro e w4 ⟨kv, ps, rfl, hps, hpt, hkr, hb4⟩
          obtain ⟨ka, kc, rfl⟩ := row_form hkr
          have hb04 := H2.out.2.2.2.2.1.trans (hb4.mono H2.out.2.2.2.2.1.size)
          have hps' : ps = kidOf w (e1, e2) := by rw [hps]; exact kid_below H2.out.2.2.2.2.1 H2.out.2.2.2.2.2.2.1
          have hpt' : Pts w ps en.kds := by rw [hps']; exact kid_tr H2.out.2.2.2.2.2.2.1
          have hval : ∀ j (h1 : j < en.kds.length) (h2 : j < ps.length), F (adr ps[j]) = some (fdF wk en.kds[j]) ∧ 0 ≤ fdF wk en.kds[j] := fun j h1 h2 => by
            obtain ⟨v, v0, v1⟩ := H2.out.2.2.2.2.2.1.1 ps[j] (by rw [← hps']; exact List.getElem_mem h2)
            have := fo_kid H2.out.2.2.2.2.2.2.2.1 v1 v0 (hpt'.tr j h1 h2)
            subst this
            exact ⟨v1, v0⟩
          have hr4 := row_keep H2.out.2.1 (Fro.below (O := fun _ => False) hb4) (fun _ _ q => q)
          have hn4 := row_keep H2.out.2.2.1 (Fro.below (O := fun _ => False) hb4) (fun _ _ q => q)
          have hM4 := H2.out.2.2.2.1.keep (Fro.below (O := fun _ => False) hb4) (fun q => q) (fun _ _ _ q => q)
          have H3 : Hid _ := And.intro hr4 (And.intro hn4 (And.intro hM4 (And.intro hb04 (And.intro hkr (And.intro hpt' hval)))))
          obtain ⟨KL, hKL⟩ : ∃ KL, en.kds.length = KL := ⟨_, rfl⟩
          have HKL : Hid _ := hKL
          rw [hKL] at hkl ⊢
          have H5 : Hid _ := And.intro H2.out.2.2.2.2.2.1.2 H2.out.2.2.2.2.2.2.1
          clear hps hpt hkr hb4 hps' hpt' hval hr4 hn4 hM4 hb04 hKL H2
          go_wp2_with fail
          go_loopg [6, 51] KL (fun gh v6 v51 wq => ∃ i : Nat, i + gh = KL ∧ v51 = .int .i64 (i : Int) ∧ wq.ownsRow w.heap.size 3 1 v6 i (((en.kds.map (fdF wk)).take i).map (Value.int .i64)) ∧ Fro (fun j => (Value.slice na 0 nc).ownBlock = some j) w4 wq ∧ (v6.ownBlock = (Value.slice na 0 nc).ownBlock ∨ ∃ k, w4.heap.size ≤ k ∧ v6.ownBlock = some k))
          case atStart => exact ⟨0, by omega, rfl, H3.out.2.1, Fro.refl _ _, .inl rfl⟩
          case round =>
            obtain ⟨i, hi, rfl, hnr, hfr, hnb⟩ := hrel
            obtain ⟨ma, mc, rfl⟩ := row_form hnr
            have hbq : Below w.heap.size w wr := H3.out.2.2.2.1.trans (hfr.toBelow H3.out.2.2.2.1.size (fun k hk q => by have := (row_base H3.out.2.1 k q).1; omega))
            have hMq := H3.out.2.2.1.keep hfr (fun q => row_nm H3.out.2.1 H3.out.2.2.1 q) (fun k arr hk q => row_nd H3.out.2.1 (by decide) hk q)
            have hrq := row_keep H3.out.1 hfr (fun k q q2 => row_ne H3.out.1 H3.out.2.1 (by decide) k q q2)
            by_cases hlt : i < KL
            · obtain ⟨gh, rfl⟩ : ∃ gh, gk = gh + 1 := ⟨gk - 1, by omega⟩
              have hil : i < en.kds.length := by rw [HKL.out]; exact hlt
              have hip : i < ps.length := by rw [H3.out.2.2.2.2.2.1.len]; exact hil
              obtain ⟨hFv, hV0⟩ := H3.out.2.2.2.2.2.2 i hil hip
              have htk := (H3.out.2.2.2.2.2.1.tr i hil hip).below hbq
              have hlkq := look_p hMq htk.nb false
              rw [if_neg (by decide)] at hlkq
              have hFv' : F ⟨ps[i].1, ps[i].2, none⟩ = some (fdF wk en.kds[i]) := hFv
              rw [hFv'] at hlkq
              simp only [Option.getD_some] at hlkq
              have hkr := H3.out.2.2.2.2.1
              rw [HKL.out] at hkr
              obtain ⟨gk', capk, hkv, hgkl, hck⟩ : ∃ g cap, Value.slice ka KL kc = .slice (some ⟨g, 0, none⟩) KL cap ∧ g < w4.heap.size ∧ KL ≤ cap := by
                rcases hkr.2 with ⟨_, h0⟩ | ⟨g, cap, cur, q, h3, h4, h5, _⟩
                · omega
                · exact ⟨g, cap, q, lt_of h4, h5⟩
              simp only [Value.slice.injEq] at hkv
              obtain ⟨rfl, _, rfl⟩ := hkv
              have hck4 := hkr.cells (g := gk') rfl i (ptV ps[i]) (by rw [List.getElem?_map, List.getElem?_eq_getElem hip]; rfl)
              rw [addr_add, Nat.zero_add] at hck4
              have hckq := hfr.cell hck4 (fun q => row_ne hkr H3.out.2.1 (by decide) gk' rfl q)
              have htak : ((en.kds.map (fdF wk)).take (i + 1)).map (Value.int .i64) = ((en.kds.map (fdF wk)).take i).map (Value.int .i64) ++ [.int .i64 (fdF wk en.kds[i])] := by
                rw [List.take_succ_eq_append_getElem (by simpa using hil), List.map_append]
                simp
              have HTK : Hid _ := And.intro htak (And.intro hbq (And.intro hfr hnb))
              generalize ps[i] = pi at hlkq hckq
              obtain ⟨p1, p2⟩ := pi
              generalize fdF wk en.kds[i] = V at hlkq HTK hV0
              have hmax : max V 0 = V := by omega
              have bA : Below wr.heap.size wr (wr.alloc (.cells #[.int .i64 V] 3)) := (Below.refl _ _).alloc (Nat.le_refl _) _
              have hnA := row_below hnr bA
              have hcA : ∀ j u, ([.int .i64 V] : List Value)[j]? = some u → (wr.alloc (.cells #[.int .i64 V] 3)).cell? ((⟨wr.heap.size, 0, none⟩ : Addr).add j) = some u := World.news_of_block (nw_heap _ _)
              have H6 : Hid _ := And.intro hnA (And.intro bA (And.intro hcA hnr))
              clear hnA bA hcA hnr hMq hrq hbq hfr hnb hFv hFv' htk hkr hck4 htak
              have i0 : (0 : Int) ≤ (i : Int) := by omega
              have i1 : (i : Int) < (KL : Int) := by omega
              go_wp2_with (first | (at_builtin; go_loud (refine wpList_ap (wr.alloc (.cells #[.int .i64 V] 3)) 3 72 i3 z3 Try.underlying72 hi3 iz0 izc iz1 iz3 (.tmp 55) (.tmp 60) rfl rfl w.heap.size (.slice ma i mc) i _ rfl H6.out.1 (some ⟨wr.heap.size, 0, none⟩) 1 1 [.int .i64 V] rfl rfl (.inr ⟨_, rfl, H6.out.2.2.1⟩) (by intro u hu; simp at hu; subst hu; rfl) (by omega) (Nat.le_trans HTK.out.2.1.size H6.out.2.1.size) ?_); intro v8 w8 hr8 hf8 hq8; have H8 : Hid _ := And.intro hr8 (And.intro hf8 hq8); clear hr8 hf8 hq8))
              go_roundg gh
              case measure => omega
              case rel =>
                have hsA := H6.out.2.1.size
                have h4q := HTK.out.2.2.1.size
                refine ⟨i + 1, by omega, by go_num, by rw [HTK.out.1]; exact H8.out.1, ?_, ?_⟩
                · refine (HTK.out.2.2.1.trans (Fro.below H6.out.2.1)).trans' H8.out.2.1 (fun k hk q => ?_)
                  rcases HTK.out.2.2.2 with c | ⟨k', hk', c⟩
                  · rw [← c]; exact q
                  · rw [c] at q; injection q with q; omega
                · rcases H8.out.2.2 with c | c
                  · rw [c]; exact HTK.out.2.2.2
                  · exact .inr ⟨_, by omega, c⟩
            · have hiK : i = KL := by omega
              subst hiK
              have hfull : (en.kds.map (fdF wk)).take i = en.kds.map (fdF wk) := List.take_of_length_le (by rw [List.length_map, HKL.out]; omega)
              rw [hfull] at hnr
              have hnl : (en.kds.map (fdF wk)).length = i := by rw [List.length_map, HKL.out]
              have hints : Ints wr (.slice ma i mc) (en.kds.map (fdF wk)) := row_ints (base := w.heap.size) (by rw [hnl]; exact hnr)
              have hq := HT.out.2.2.1 wr e1 e2 en _ _ hbq (H5.out.2.below hbq) hints rfl HWT.out (by rw [hnl]; exact hkl)
              rw [← fdF_eq wk en] at hq
              have H6 : Hid _ := And.intro hq (And.intro hMq (And.intro hbq (And.intro hrq hnr)))
              clear hq hMq hbq hrq hnr hints hfull hfr hnb
              go_wp2_with fail
              refine Calls.mono H6.out.1 ?_
              rintro e w9 ⟨rfl, m9, hw9⟩
              have hb9 := bel_of hw9
              have hM9 := H6.out.2.1.keep (Fro.below (O := fun _ => False) hb9) (fun q => q) (fun _ _ _ q => q)
              have hbw9 := H6.out.2.2.1.trans (hb9.mono H6.out.2.2.1.size)
              have hr9 := row_keep H6.out.2.2.2.1 (Fro.below (O := fun _ => False) hb9) (fun _ _ q => q)
              have hn9 := row_keep H6.out.2.2.2.2 (Fro.below (O := fun _ => False) hb9) (fun _ _ q => q)
              obtain ⟨w10, hup, hM10, hg10⟩ := upd_p hM9 (H5.out.2.below hbw9).nb (fdF wk en)
              have hfg : Fro (fun j => j = w.heap.size) w9 w10 := Fro.grown hg10 (fun k q => by simpa using q.symm)
              have H9 : Hid _ := And.intro (row_keep hr9 hfg (fun k q q2 => row_nm hr9 hM9 (by rw [q, q2]))) (And.intro (row_keep hn9 hfg (fun k q q2 => row_nm hn9 hM9 (by rw [q, q2]))) (And.intro hM10 (hbw9.grown hg10 hbw9.size (fun j hj => by simp at hj; omega))))
              clear hb9 hM9 hbw9 hr9 hn9 hM10 hg10 hfg hw9 H6
              go_wp2_with fail
              go_roundg g
              case measure => omega
              case rel =>
                refine ⟨st', _, _, _, ⟨by rw [HSL.out]; exact H9.out.1, H9.out.2.1, H9.out.2.2.1, H5.out.1, ?_, H9.out.2.2.2, HWS.out⟩, by omega⟩
                have := en_pos ⟨(e1, e2), en, em⟩
                omega
        · have hv2 : (v == -1) = false := by simpa using hv
          have hfp := fo_pop hR.fo hF hv
          have H2 : Hid _ := And.intro hpop (And.intro hR.num (And.intro hR.map (And.intro hfp hR.bel)))
          clear hpop hrow hnb htr hfp hR hss hS hSl
          go_wp2_with fail
          go_roundg g
          case measure => omega
          case rel =>
            refine ⟨st', F, k6, xs, ⟨by rw [HSL.out]; exact H2.out.1, H2.out.2.1, H2.out.2.2.1, H2.out.2.2.2.1, ?_, H2.out.2.2.2.2, HWS.out⟩, by omega⟩
            have := en_pos ⟨(e1, e2), en, em⟩
            omega
/-- What the closure works out. -/
def Wkpo (w : World) (wk : Nd → List Int → Int) (c : Addr) : Prop := ∀ (W : World) (g off : Nat) (n : Nd) (v : Value) (l : List Int), Below w.heap.size w W → TrA W g off n → Ints W v l → l = n.kds.map (fdF wk) → wtF n ≤ 1000000 → l.length ≤ 100000 → Calls Try.prog 32 #[ptV (g, off), v, .pointer (some c)] W fun e w' => e = .returned (.int .i64 (wk n l)) ∧ ∃ m, w' = W.drewN m
set_option maxRecDepth 4000 in
set_option maxHeartbeats 8000000 in
theorem fold_po {w : World} {wk : Nd → List Int → Int} {c : Addr} {root : Nat × Nat} {n : Nd} (ht : TrA w root.1 root.2 n) (hs : Sml n) (hwt : wtF n ≤ 1000000) (hw : Wkpo w wk c) (hwk : ∀ n, 0 ≤ fdF wk n) : Calls Try.prog 31 #[ptV root, .func (.func 32) #[] #[.pointer (some c)]] w fun e w' => e = .returned (.int .i64 (fdF wk n)) ∧ Below w.heap.size w w' := by
  obtain ⟨i71, z71, hi71, hz0, hzc, hz1, hz3⟩ := info_npp
  obtain ⟨i3, z3, hi3, iz0, izc, iz1, iz3⟩ := info_inp
  obtain ⟨r1, r2⟩ := root
  have HT : Hid _ := And.intro ht (And.intro hs (And.intro hw hwk))
  have xM := nw_heap w (.map #[] 0)
  have bM : Below w.heap.size w (w.alloc (.map #[] 0)) := (Below.refl _ _).alloc (Nat.le_refl _) _
  have hM := PMap.new w
  have b1 : Below (w.alloc (.map #[] 0)).heap.size (w.alloc (.map #[] 0)) ((w.alloc (.map #[] 0)).alloc (.cells #[ptV (r1, r2)] 71)) := (Below.refl _ _).alloc (Nat.le_refl _) _
  have hst : FoR w wk (r1, r2) (wtF n) (.slice none 0 0) (.slice (some ⟨w.heap.size + 1, 0, none⟩) 1 1) ((w.alloc (.map #[] 0)).alloc (.cells #[ptV (r1, r2)] 71)) [⟨(r1, r2), n, false⟩] (fun _ => none) 0 [] := by
    refine ⟨⟨rfl, .inr ⟨w.heap.size + 1, 1, #[ptV (r1, r2)], rfl, by omega, ?_, Nat.le_refl _, by decide, rfl, rfl⟩⟩, ⟨rfl, .inl ⟨rfl, rfl⟩⟩, ?_, fo_start ht hs, by simp [enW], bM.trans (b1.mono bM.size), fun e he => by simp at he; subst he; exact hwt⟩
    · have := nw_heap (w.alloc (.map #[] 0)) (.cells #[ptV (r1, r2)] 71)
      rw [sza] at this
      exact this
    · exact hM.keep (Fro.below (O := fun _ => False) b1) (fun q => q) (fun _ _ _ q => q)
  have H0 : Hid _ := hst
  clear ht hs hw hwk hst hM xM bM b1
  have hmm := @run_makeMap Try.prog
  go_enter Try.func31, Try.ntmps31
  go_wp2_with fail
  go_loopg [6, 7] (wtF n) (fun g v6 v7 wr => ∃ st F k6 xs, FoR w wk (r1, r2) g v6 v7 wr st F k6 xs ∧ g ≤ wtF n)
  case atStart => exact ⟨_, _, _, _, H0.out, Nat.le_refl _⟩
  case round =>
    obtain ⟨st, F, k6, xs, hR, hgn⟩ := hrel
    clear H0
    obtain ⟨va, vc, rfl⟩ := row_form hR.row
    obtain ⟨na, nc, rfl⟩ := row_form hR.num
    have hln := en_len st
    have hsum := hR.sum
    rcases List.eq_nil_or_concat st with rfl | ⟨st', e, rfl⟩
    · have hF := fo_end hR.fo HT.out.1
      have hlk := look_p hR.map (HT.out.1.below hR.bel).nb false
      rw [hF, if_neg (by decide)] at hlk
      simp only [Option.getD_some] at hlk
      have H1 : Hid _ := hR.bel
      clear hR hF
      go_wp2_with fail
      go_ret
      exact ⟨rfl, H1.out⟩
    · rw [List.concat_eq_append] at *
      obtain ⟨S, hS⟩ : ∃ S, st'.length = S := ⟨_, rfl⟩
      have HSL : Hid _ := hS
      have hSl : (st' ++ [e]).length = S + 1 := by simp [hS]
      have hrow := hR.row
      rw [hSl] at hrow hln ⊢
      rw [List.map_append] at hrow
      have htr := hR.fo.tr e (by simp)
      have hnb := (htr.1.below hR.bel).nb
      have hwe := hR.wt e (by simp)
      have HWS : Hid (∀ e ∈ st', wtF e.n ≤ 1000000) := fun x hx => hR.wt x (by simp [hx])
      obtain ⟨g7, cap7, hv7, hbg7, hg7, hc7⟩ : ∃ g cap, Value.slice va (S + 1) vc = .slice (some ⟨g, 0, none⟩) (S + 1) cap ∧ w.heap.size ≤ g ∧ g < wr.heap.size ∧ S + 1 ≤ cap := by
        rcases hrow.2 with ⟨q, h0⟩ | ⟨g, cap, cur, q, h3, h4, h5, _⟩
        · omega
        · exact ⟨g, cap, q, h3, lt_of h4, h5⟩
      simp only [Value.slice.injEq] at hv7
      obtain ⟨rfl, _, rfl⟩ := hv7
      have hcell := hrow.cells (g := g7) rfl S (ptV e.a) (by rw [List.getElem?_append_right (by simp [hS])]; simp [hS])
      rw [addr_add, Nat.zero_add] at hcell
      have hpop := row_pop (xs := st'.map fun e => ptV e.a) hrow (by simp [hS])
      have hss := sum_snoc st' e
      rw [hss] at hsum
      obtain ⟨ea, en, em⟩ := e
      obtain ⟨e1, e2⟩ := ea
      have HWT : Hid (wtF en ≤ 1000000) := hwe
      clear hwe
      have hlk := look_p hR.map hnb true
      rw [if_pos rfl] at hlk
      have hSb : S ≤ 1000000 := by have := en_pos ⟨(e1, e2), en, em⟩; have := en_len st'; omega
      cases hF : F ⟨e1, e2, none⟩ with
      | none =>
        rw [hF] at hlk
        simp only [Option.getD_none, Option.isSome_none] at hlk
        obtain ⟨w2, hup, hM2, hg2⟩ := upd_p hR.map hnb (-1)
        have hb2 : Below w.heap.size w w2 := hR.bel.grown hg2 hR.bel.size (fun j hj => by simp at hj; omega)
        have hk := kids_p (htr.1.below hb2) htr.2
        have hfg : Fro (fun j => j = w.heap.size) wr w2 := Fro.grown hg2 (fun k q => by simpa using q.symm)
        have hr2 := row_keep hrow hfg (fun k q q2 => row_nm hrow hR.map (by rw [q, q2]))
        have hn2 := row_keep hR.num hfg (fun k q q2 => row_nm hR.num hR.map (by rw [q, q2]))
        have H2 : Hid _ := And.intro hk (And.intro hr2 (And.intro hn2 (And.intro hM2 (And.intro hb2 hR.fo))))
        have hem : em = false := by
          cases hm : em with
          | false => rfl
          | true =>
            have := (hR.fo.mark st'.length (by simp) (by simp [hm])).1
            simp at this
            rw [hF] at this
            cases this
        clear hk hr2 hn2 hM2 hb2 hfg hg2 hnb htr hrow hpop hss hR hS hSl
        go_wp2_with fail
        refine Calls.mono H2.out.1 ?_
        rintro e w3 ⟨kv, ps, rfl, hps, hpt, hkr, hb3⟩
        obtain ⟨ka, kc, rfl⟩ := row_form hkr
        have hps' : ps = kidOf w (e1, e2) := by rw [hps]; exact kid_below H2.out.2.2.2.2.1 (H2.out.2.2.2.2.2.tr ⟨(e1, e2), en, em⟩ (by simp)).1
        have hpt' : Pts w ps en.kds := ⟨hpt.len, fun j h1 h2 => by
          have tr0 := (H2.out.2.2.2.2.2.tr ⟨(e1, e2), en, em⟩ (by simp)).1
          have hq := kid_tr tr0
          rw [← hps'] at hq
          exact hq.tr j h1 h2⟩
        have hop := fo_open H2.out.2.2.2.2.2 hF hps' hpt'
        have hr3 := row_keep H2.out.2.1 (Fro.below (O := fun _ => False) hb3) (fun _ _ q => q)
        have hn3 := row_keep H2.out.2.2.1 (Fro.below (O := fun _ => False) hb3) (fun _ _ q => q)
        have hM3 := H2.out.2.2.2.1.keep (Fro.below (O := fun _ => False) hb3) (fun q => q) (fun _ _ _ q => q)
        have hb03 := H2.out.2.2.2.2.1.trans (hb3.mono H2.out.2.2.2.2.1.size)
        have hsrc : en.kds.length = 0 ∨ ∃ ad', ka = some ad' ∧ ∀ j u, (ps.map ptV)[j]? = some u → w3.cell? (ad'.add j) = some u := by
          rcases hkr.2 with ⟨_, q⟩ | ⟨gk, capk, cur, q, _⟩
          · exact .inl q
          · simp only [Value.slice.injEq] at q
            obtain ⟨rfl, _, rfl⟩ := q
            exact .inr ⟨_, rfl, fun j u hu => hkr.cells (g := gk) rfl j u hu⟩
        have hml : (ps.map ptV).length = en.kds.length := by rw [List.length_map, hpt.len]
        have hone : ∀ u ∈ ps.map ptV, u.oneCell' = true := fun u hu => by
          rw [List.mem_map] at hu
          obtain ⟨p, _, rfl⟩ := hu
          rfl
        have hkl : en.kds.length ≤ 100000 := kds_le (H2.out.2.2.2.2.2.tr ⟨(e1, e2), en, em⟩ (by simp)).2
        have H3 : Hid _ := And.intro hr3 (And.intro hn3 (And.intro hM3 (And.intro hb03 (And.intro hop (And.intro hsrc (And.intro hml hone))))))
        obtain ⟨KL, hKL⟩ : ∃ KL, en.kds.length = KL := ⟨_, rfl⟩
        have HKL : Hid _ := hKL
        rw [hKL] at H3 hkl ⊢
        clear hps hpt hkr hb3 hps' hpt' hop hr3 hn3 hM3 hb03 hsrc hml hone hKL H2
        go_wp2_with (first | (at_builtin; go_loud (refine wpList_ap w3 71 85 i71 z71 Try.underlying85 hi71 hz0 hzc hz1 hz3 (.tmp 35) (.tmp 37) rfl rfl w.heap.size (.slice (some ⟨g7, 0, none⟩) (S + 1) vc) (S + 1) _ rfl H3.out.1 ka KL kc (ps.map ptV) rfl H3.out.2.2.2.2.2.2.1 H3.out.2.2.2.2.2.1 H3.out.2.2.2.2.2.2.2 (by omega) H3.out.2.2.2.1.size ?_); intro v4 w4 hr4 hf4 hq4; have H4 : Hid _ := And.intro hr4 hf4; clear hr4 hf4 hq4))
        obtain ⟨g, rfl⟩ : ∃ g, gk = g + 1 := ⟨gk - 1, by have := en_pos ⟨(e1, e2), en, em⟩; omega⟩
        go_roundg g
        case measure => omega
        case rel =>
          have hbw : Below w.heap.size w w4 := H3.out.2.2.2.1.trans (H4.out.2.toBelow H3.out.2.2.2.1.size (fun i hi q => by simp [Value.ownBlock] at q; omega))
          refine ⟨_, _, k6, xs, ⟨?_, row_keep H3.out.2.1 H4.out.2 (fun k q q2 => row_ne H3.out.1 H3.out.2.1 (by decide) k q2 q), H3.out.2.2.1.keep H4.out.2 (fun q => row_nm H3.out.1 H3.out.2.2.1 q) (fun k arr hk q => row_nd H3.out.1 (by decide) hk q), H3.out.2.2.2.2.1.1, ?_, hbw, ?_⟩, by omega⟩
          · have hm1 : ∀ (ps : List (Nat × Nat)) (ns : List Nd), ps.length = ns.length → ((ps.zip ns).map (fun p => (⟨p.1, p.2, false⟩ : En))).map (fun e => ptV e.a) = ps.map ptV := fun ps ns hl => by
              rw [List.map_map]
              have h2 : ((fun e : En => ptV e.a) ∘ fun p : (Nat × Nat) × Nd => (⟨p.1, p.2, false⟩ : En)) = fun p => ptV p.1 := by funext p; rfl
              rw [h2]
              have h3 : (ps.zip ns).map (fun p => ptV p.1) = ((ps.zip ns).map Prod.fst).map ptV := by rw [List.map_map]; rfl
              rw [h3, List.map_fst_zip (by omega)]
            have hl1 : ps.length = en.kds.length := by have := H3.out.2.2.2.2.2.2.1; rw [List.length_map] at this; rw [this]; exact HKL.out.symm
            have hl2 : (st' ++ [(⟨(e1, e2), en, true⟩ : En)] ++ (ps.zip en.kds).map (fun p => (⟨p.1, p.2, false⟩ : En))).length = S + 1 + KL := by
              simp [HSL.out, hl1, HKL.out]
              omega
            rw [hl2, List.map_append, List.map_append, hm1 ps en.kds hl1]
            exact H4.out.1
          · have := H3.out.2.2.2.2.1.2
            have hwe : enW ⟨(e1, e2), en, em⟩ = wtF en := by rw [hem]; rfl
            rw [hwe] at hsum
            rw [List.map_append, List.map_append, List.sum_append, List.sum_append]
            have e1' : (List.map enW [(⟨(e1, e2), en, true⟩ : En)]).sum = 1 := rfl
            rw [e1']
            omega
          · intro x hx
            rcases List.mem_append.1 hx with hx | hx
            · rcases List.mem_append.1 hx with hx | hx
              · exact HWS.out x hx
              · simp at hx
                subst hx
                exact HWT.out
            · rw [List.mem_map] at hx
              obtain ⟨p, hp, rfl⟩ := hx
              have := wt_kid (List.of_mem_zip hp).2
              have h2 := HWT.out
              show wtF p.2 ≤ 1000000
              omega
      | some v =>
        rw [hF] at hlk
        simp only [Option.getD_some, Option.isSome_some] at hlk
        obtain ⟨g, rfl⟩ : ∃ g, gk = g + 1 := ⟨gk - 1, by have := en_pos ⟨(e1, e2), en, em⟩; omega⟩
        by_cases hv : v = -1
        · subst hv
          have hw0 : 0 ≤ fdF wk en := HT.out.2.2.2 en
          have hdn := fo_done hR.fo hF hw0
          have hk := kids_p (htr.1.below hR.bel) htr.2
          have hcut := row_cut hR.num
          have hkl : en.kds.length ≤ 100000 := kds_le htr.2
          have H2 : Hid _ := And.intro hk (And.intro hpop (And.intro hcut (And.intro hR.map (And.intro hR.bel (And.intro hdn (And.intro htr.1 (And.intro hR.fo hrow)))))))
          clear hk hnb htr hrow hpop hss hR hS hSl hcut hdn
          go_wp2_with fail
          refine Calls.mono H2.out.1 ?_
          rintro e w4 ⟨kv, ps, rfl, hps, hpt, hkr, hb4⟩
          obtain ⟨ka, kc, rfl⟩ := row_form hkr
          have hb04 := H2.out.2.2.2.2.1.trans (hb4.mono H2.out.2.2.2.2.1.size)
          have hps' : ps = kidOf w (e1, e2) := by rw [hps]; exact kid_below H2.out.2.2.2.2.1 H2.out.2.2.2.2.2.2.1
          have hpt' : Pts w ps en.kds := by rw [hps']; exact kid_tr H2.out.2.2.2.2.2.2.1
          have hval : ∀ j (h1 : j < en.kds.length) (h2 : j < ps.length), F (adr ps[j]) = some (fdF wk en.kds[j]) ∧ 0 ≤ fdF wk en.kds[j] := fun j h1 h2 => by
            obtain ⟨v, v0, v1⟩ := H2.out.2.2.2.2.2.1.1 ps[j] (by rw [← hps']; exact List.getElem_mem h2)
            have := fo_kid H2.out.2.2.2.2.2.2.2.1 v1 v0 (hpt'.tr j h1 h2)
            subst this
            exact ⟨v1, v0⟩
          have hr4 := row_keep H2.out.2.1 (Fro.below (O := fun _ => False) hb4) (fun _ _ q => q)
          have hn4 := row_keep H2.out.2.2.1 (Fro.below (O := fun _ => False) hb4) (fun _ _ q => q)
          have hM4 := H2.out.2.2.2.1.keep (Fro.below (O := fun _ => False) hb4) (fun q => q) (fun _ _ _ q => q)
          have H3 : Hid _ := And.intro hr4 (And.intro hn4 (And.intro hM4 (And.intro hb04 (And.intro hkr (And.intro hpt' hval)))))
          obtain ⟨KL, hKL⟩ : ∃ KL, en.kds.length = KL := ⟨_, rfl⟩
          have HKL : Hid _ := hKL
          rw [hKL] at hkl ⊢
          have H5 : Hid _ := And.intro H2.out.2.2.2.2.2.1.2 H2.out.2.2.2.2.2.2.1
          clear hps hpt hkr hb4 hps' hpt' hval hr4 hn4 hM4 hb04 hKL H2
          go_wp2_with fail
          go_loopg [6, 51] KL (fun gh v6 v51 wq => ∃ i : Nat, i + gh = KL ∧ v51 = .int .i64 (i : Int) ∧ wq.ownsRow w.heap.size 3 1 v6 i (((en.kds.map (fdF wk)).take i).map (Value.int .i64)) ∧ Fro (fun j => (Value.slice na 0 nc).ownBlock = some j) w4 wq ∧ (v6.ownBlock = (Value.slice na 0 nc).ownBlock ∨ ∃ k, w4.heap.size ≤ k ∧ v6.ownBlock = some k))
          case atStart => exact ⟨0, by omega, rfl, H3.out.2.1, Fro.refl _ _, .inl rfl⟩
          case round =>
            obtain ⟨i, hi, rfl, hnr, hfr, hnb⟩ := hrel
            obtain ⟨ma, mc, rfl⟩ := row_form hnr
            have hbq : Below w.heap.size w wr := H3.out.2.2.2.1.trans (hfr.toBelow H3.out.2.2.2.1.size (fun k hk q => by have := (row_base H3.out.2.1 k q).1; omega))
            have hMq := H3.out.2.2.1.keep hfr (fun q => row_nm H3.out.2.1 H3.out.2.2.1 q) (fun k arr hk q => row_nd H3.out.2.1 (by decide) hk q)
            have hrq := row_keep H3.out.1 hfr (fun k q q2 => row_ne H3.out.1 H3.out.2.1 (by decide) k q q2)
            by_cases hlt : i < KL
            · obtain ⟨gh, rfl⟩ : ∃ gh, gk = gh + 1 := ⟨gk - 1, by omega⟩
              have hil : i < en.kds.length := by rw [HKL.out]; exact hlt
              have hip : i < ps.length := by rw [H3.out.2.2.2.2.2.1.len]; exact hil
              obtain ⟨hFv, hV0⟩ := H3.out.2.2.2.2.2.2 i hil hip
              have htk := (H3.out.2.2.2.2.2.1.tr i hil hip).below hbq
              have hlkq := look_p hMq htk.nb false
              rw [if_neg (by decide)] at hlkq
              have hFv' : F ⟨ps[i].1, ps[i].2, none⟩ = some (fdF wk en.kds[i]) := hFv
              rw [hFv'] at hlkq
              simp only [Option.getD_some] at hlkq
              have hkr := H3.out.2.2.2.2.1
              rw [HKL.out] at hkr
              obtain ⟨gk', capk, hkv, hgkl, hck⟩ : ∃ g cap, Value.slice ka KL kc = .slice (some ⟨g, 0, none⟩) KL cap ∧ g < w4.heap.size ∧ KL ≤ cap := by
                rcases hkr.2 with ⟨_, h0⟩ | ⟨g, cap, cur, q, h3, h4, h5, _⟩
                · omega
                · exact ⟨g, cap, q, lt_of h4, h5⟩
              simp only [Value.slice.injEq] at hkv
              obtain ⟨rfl, _, rfl⟩ := hkv
              have hck4 := hkr.cells (g := gk') rfl i (ptV ps[i]) (by rw [List.getElem?_map, List.getElem?_eq_getElem hip]; rfl)
              rw [addr_add, Nat.zero_add] at hck4
              have hckq := hfr.cell hck4 (fun q => row_ne hkr H3.out.2.1 (by decide) gk' rfl q)
              have htak : ((en.kds.map (fdF wk)).take (i + 1)).map (Value.int .i64) = ((en.kds.map (fdF wk)).take i).map (Value.int .i64) ++ [.int .i64 (fdF wk en.kds[i])] := by
                rw [List.take_succ_eq_append_getElem (by simpa using hil), List.map_append]
                simp
              have HTK : Hid _ := And.intro htak (And.intro hbq (And.intro hfr hnb))
              generalize ps[i] = pi at hlkq hckq
              obtain ⟨p1, p2⟩ := pi
              generalize fdF wk en.kds[i] = V at hlkq HTK hV0
              have hmax : max V 0 = V := by omega
              have bA : Below wr.heap.size wr (wr.alloc (.cells #[.int .i64 V] 3)) := (Below.refl _ _).alloc (Nat.le_refl _) _
              have hnA := row_below hnr bA
              have hcA : ∀ j u, ([.int .i64 V] : List Value)[j]? = some u → (wr.alloc (.cells #[.int .i64 V] 3)).cell? ((⟨wr.heap.size, 0, none⟩ : Addr).add j) = some u := World.news_of_block (nw_heap _ _)
              have H6 : Hid _ := And.intro hnA (And.intro bA (And.intro hcA hnr))
              clear hnA bA hcA hnr hMq hrq hbq hfr hnb hFv hFv' htk hkr hck4 htak
              have i0 : (0 : Int) ≤ (i : Int) := by omega
              have i1 : (i : Int) < (KL : Int) := by omega
              go_wp2_with (first | (at_builtin; go_loud (refine wpList_ap (wr.alloc (.cells #[.int .i64 V] 3)) 3 72 i3 z3 Try.underlying72 hi3 iz0 izc iz1 iz3 (.tmp 55) (.tmp 60) rfl rfl w.heap.size (.slice ma i mc) i _ rfl H6.out.1 (some ⟨wr.heap.size, 0, none⟩) 1 1 [.int .i64 V] rfl rfl (.inr ⟨_, rfl, H6.out.2.2.1⟩) (by intro u hu; simp at hu; subst hu; rfl) (by omega) (Nat.le_trans HTK.out.2.1.size H6.out.2.1.size) ?_); intro v8 w8 hr8 hf8 hq8; have H8 : Hid _ := And.intro hr8 (And.intro hf8 hq8); clear hr8 hf8 hq8))
              go_roundg gh
              case measure => omega
              case rel =>
                have hsA := H6.out.2.1.size
                have h4q := HTK.out.2.2.1.size
                refine ⟨i + 1, by omega, by go_num, by rw [HTK.out.1]; exact H8.out.1, ?_, ?_⟩
                · refine (HTK.out.2.2.1.trans (Fro.below H6.out.2.1)).trans' H8.out.2.1 (fun k hk q => ?_)
                  rcases HTK.out.2.2.2 with c | ⟨k', hk', c⟩
                  · rw [← c]; exact q
                  · rw [c] at q; injection q with q; omega
                · rcases H8.out.2.2 with c | c
                  · rw [c]; exact HTK.out.2.2.2
                  · exact .inr ⟨_, by omega, c⟩
            · have hiK : i = KL := by omega
              subst hiK
              have hfull : (en.kds.map (fdF wk)).take i = en.kds.map (fdF wk) := List.take_of_length_le (by rw [List.length_map, HKL.out]; omega)
              rw [hfull] at hnr
              have hnl : (en.kds.map (fdF wk)).length = i := by rw [List.length_map, HKL.out]
              have hints : Ints wr (.slice ma i mc) (en.kds.map (fdF wk)) := row_ints (base := w.heap.size) (by rw [hnl]; exact hnr)
              have hq := HT.out.2.2.1 wr e1 e2 en _ _ hbq (H5.out.2.below hbq) hints rfl HWT.out (by rw [hnl]; exact hkl)
              rw [← fdF_eq wk en] at hq
              have H6 : Hid _ := And.intro hq (And.intro hMq (And.intro hbq (And.intro hrq hnr)))
              clear hq hMq hbq hrq hnr hints hfull hfr hnb
              go_wp2_with fail
              refine Calls.mono H6.out.1 ?_
              rintro e w9 ⟨rfl, m9, hw9⟩
              have hb9 := bel_of hw9
              have hM9 := H6.out.2.1.keep (Fro.below (O := fun _ => False) hb9) (fun q => q) (fun _ _ _ q => q)
              have hbw9 := H6.out.2.2.1.trans (hb9.mono H6.out.2.2.1.size)
              have hr9 := row_keep H6.out.2.2.2.1 (Fro.below (O := fun _ => False) hb9) (fun _ _ q => q)
              have hn9 := row_keep H6.out.2.2.2.2 (Fro.below (O := fun _ => False) hb9) (fun _ _ q => q)
              obtain ⟨w10, hup, hM10, hg10⟩ := upd_p hM9 (H5.out.2.below hbw9).nb (fdF wk en)
              have hfg : Fro (fun j => j = w.heap.size) w9 w10 := Fro.grown hg10 (fun k q => by simpa using q.symm)
              have H9 : Hid _ := And.intro (row_keep hr9 hfg (fun k q q2 => row_nm hr9 hM9 (by rw [q, q2]))) (And.intro (row_keep hn9 hfg (fun k q q2 => row_nm hn9 hM9 (by rw [q, q2]))) (And.intro hM10 (hbw9.grown hg10 hbw9.size (fun j hj => by simp at hj; omega))))
              clear hb9 hM9 hbw9 hr9 hn9 hM10 hg10 hfg hw9 H6
              go_wp2_with fail
              go_roundg g
              case measure => omega
              case rel =>
                refine ⟨st', _, _, _, ⟨by rw [HSL.out]; exact H9.out.1, H9.out.2.1, H9.out.2.2.1, H5.out.1, ?_, H9.out.2.2.2, HWS.out⟩, by omega⟩
                have := en_pos ⟨(e1, e2), en, em⟩
                omega
        · have hv2 : (v == -1) = false := by simpa using hv
          have hfp := fo_pop hR.fo hF hv
          have H2 : Hid _ := And.intro hpop (And.intro hR.num (And.intro hR.map (And.intro hfp hR.bel)))
          clear hpop hrow hnb htr hfp hR hss hS hSl
          go_wp2_with fail
          go_roundg g
          case measure => omega
          case rel =>
            refine ⟨st', F, k6, xs, ⟨by rw [HSL.out]; exact H2.out.1, H2.out.2.1, H2.out.2.2.1, H2.out.2.2.2.1, ?_, H2.out.2.2.2.2, HWS.out⟩, by omega⟩
            have := en_pos ⟨(e1, e2), en, em⟩
            omega
end Go.Proofs.Ythlkbijpphdblaa
