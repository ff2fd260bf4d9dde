/- Joined: HDtRd3, HDtRd4, HDtRd5. -/
import Derived.Test.YtgaegajcejpmdaaGreatDoorHJ23
namespace Go.Proofs.YtgaegajcejpmdaaGreatDoor.Dt
open Go.RowKit
set_option linter.unusedVariables false

theorem cl1 {W : World} {X : Nat} {v : Value} {t : TypeId} (h : W.heap[X]? = some (.cells #[v] t (0, 0))) : W.cell? ⟨X, 0, none⟩ = some v := by simp [World.cell?, h]
theorem cl_at {W : World} {X i : Nat} {cs : Array Value} {t : TypeId} {v : Value} (h : W.heap[X]? = some (.cells cs t (0, 0))) (hi : cs[i]? = some v) : W.cell? ⟨X, i, none⟩ = some v ∧ W.frozen? ⟨X, i, none⟩ = false := by
  refine ⟨by simp [World.cell?, h, hi], by simp [World.frozen?, h]⟩
theorem fro_set (W : World) (X i : Nat) (u : Value) : Fro (fun k => k = X) W (W.setCell ⟨X, i, none⟩ u) := (Fro.refl (fun k => k = X) W).set (X := X) (i := i) (.inl rfl) u
theorem set_get {cs : Array Value} {i : Nat} {v : Value} (h : cs[i]? = some v) (u : Value) : (cs.setIfInBounds i u)[i]? = some u := by
  have hlt : i < cs.size := (Array.getElem?_eq_some_iff.1 h).1
  rw [Array.getElem?_setIfInBounds]
  simp [hlt]
theorem set_set (cs : Array Value) (i : Nat) (u v : Value) : (cs.setIfInBounds i u).setIfInBounds i v = cs.setIfInBounds i v := by
  apply Array.toList_inj.1
  simp
/-- mark. -/
def mkG (c : Int) (l : List Int) : List Int × Bool := if l.head? = some c then (l.tail, true) else (l, false)
set_option maxHeartbeats 400000 in
theorem mark_c (s : ByteArray) (c : UInt8) (b : Nat) (W : World) (hb : W.heap[b]? = some (.cells #[.string ⟨#[c]⟩] 9 (0, 0))) (hs : s.size ≤ maxLen) :
    Calls Tryz.prog 187 #[.string s, .pointer (some ⟨b, 0, none⟩)] W fun e W' => e = .returned (.tuple #[.string (if (bl s).head? = some (c.toNat : Int) then s.extract 1 s.size else s), .bool (decide ((bl s).head? = some (c.toNat : Int)))]) ∧ W' = W := by
  have HM : Hid _ := And.intro (cp_p s c W hs) trivial
  have hc := cl1 hb
  clear hb
  generalize (if (bl s).head? = some (c.toNat : Int) then s.extract 1 s.size else s) = r at *
  generalize (decide ((bl s).head? = some (c.toNat : Int))) = b at *
  go_enter Tryz.func187, Tryz.ntmps187
  go_wp2_with (first | (go_at_call 156; refine Calls.mono HM.out.1 ?_; rintro e w' ⟨rfl, rfl⟩))
  go_ret2
  exact ⟨rfl, rfl⟩
/-- two: how many digits, their number, whether it will do. -/
def twOk (lo hi : Int) (l : List Int) : Bool := decide (dk 2 l = 2) && decide (lo ≤ dvl (l.take (dk 2 l))) && decide (dvl (l.take (dk 2 l)) ≤ hi)
theorem dk_le (m : Nat) (l : List Int) : dk m l ≤ m ∧ dk m l ≤ l.length ∧ dk m l ≤ dgs l := by
  have := dgs_len l
  unfold dk
  omega
theorem two_in (lo hi : Int) (l : List Int) : inB lo hi l = if twOk lo hi l then some (dvl (l.take (dk 2 l)), l.drop (dk 2 l)) else none := by
  unfold inB nmB twOk
  by_cases h : dgs l < 2
  · have : ¬ dk 2 l = 2 := by unfold dk; omega
    rw [if_pos h]
    simp [this]
  · have : dk 2 l = 2 := by unfold dk; omega
    rw [if_neg h, this]
    simp only [Option.bind_some]
    by_cases h1 : lo ≤ dvl (l.take 2)
    · by_cases h2 : dvl (l.take 2) ≤ hi
      · rw [if_neg (by omega)]; simp [h1, h2]
      · rw [if_pos (by omega)]; simp [h2]
    · rw [if_pos (by omega)]; simp [h1]
set_option maxHeartbeats 800000 in
theorem two_c (s : ByteArray) (b1 b2 b3 B off : Nat) (lo hi : Int) (W : World) (cs : Array Value) (t : TypeId) (v : Value) (h1 : W.heap[b1]? = some (.cells #[.pointer (some ⟨B, off, none⟩)] 167 (0, 0))) (h2 : W.heap[b2]? = some (.cells #[.int .i64 lo] 3 (0, 0))) (h3 : W.heap[b3]? = some (.cells #[.int .i64 hi] 3 (0, 0)))
    (hB : W.heap[B]? = some (.cells cs t (0, 0))) (hv : cs[off]? = some v) (n1 : B ≠ b1) (n2 : B ≠ b2) (n3 : B ≠ b3) (hs : s.size ≤ maxLen) :
    Calls Tryz.prog 190 #[.string s, .pointer (some ⟨b1, 0, none⟩), .pointer (some ⟨b2, 0, none⟩), .pointer (some ⟨b3, 0, none⟩)] W fun e W' => e = .returned (.tuple #[.string (s.extract (dk 2 (bl s)) s.size), .bool (twOk lo hi (bl s))]) ∧ W'.heap[B]? = some (.cells (cs.setIfInBounds off (.int .i64 (dvl ((bl s).take (dk 2 (bl s)))))) t (0, 0)) ∧ Fro (fun k => k = B) W W' := by
  have HM : Hid _ := And.intro (digits_p s 2 W hs (by omega)) trivial
  have c1 := cl1 h1
  obtain ⟨cB, fB⟩ := cl_at hB hv
  have hk := dk_le 2 (bl s)
  rw [bl_len] at hk
  have hvb := dvl_bd (l := bl s) (j := dk 2 (bl s)) hk.2.2 (by omega)
  have HO : Hid (twOk lo hi (bl s) = (decide (dk 2 (bl s) = 2) && decide (lo ≤ dvl ((bl s).take (dk 2 (bl s)))) && decide (dvl ((bl s).take (dk 2 (bl s))) ≤ hi))) := (rfl : twOk lo hi (bl s) = _)
  generalize twOk lo hi (bl s) = OKK at *
  generalize hV : dvl ((bl s).take (dk 2 (bl s))) = V at *
  generalize hK : dk 2 (bl s) = K at *
  clear hV hK
  obtain ⟨hk0, hk1, _⟩ := hk
  obtain ⟨hv0, hv1⟩ := hvb
  unfold maxLen at hs
  have hfin : ∀ q, (((W.setCell ⟨B, off, none⟩ (.int .i64 V)).drewN q).heap[B]? = some (.cells (cs.setIfInBounds off (.int .i64 V)) t (0, 0))) ∧ Fro (fun k => k = B) W ((W.setCell ⟨B, off, none⟩ (.int .i64 V)).drewN q) := fun q => ⟨bset hB _, (fro_set W B off _).drewN q⟩
  have c2 : (W.setCell ⟨B, off, none⟩ (.int .i64 V)).cell? ⟨b2, 0, none⟩ = some (.int .i64 lo) := cl1 ((Below.heap_setCell _ _ _ _ (by simpa using n2.symm)).trans h2)
  have c3 : (W.setCell ⟨B, off, none⟩ (.int .i64 V)).cell? ⟨b3, 0, none⟩ = some (.int .i64 hi) := cl1 ((Below.heap_setCell _ _ _ _ (by simpa using n3.symm)).trans h3)
  have HF : Hid _ := And.intro hfin (And.intro c2 c3)
  clear hfin c2 c3 h1 h2 h3 hB hv
  go_enter Tryz.func190, Tryz.ntmps190
  go_wp2_with (first | (go_at_call 189; refine Calls.mono HM.out.1 ?_; rintro e w' ⟨rfl, rfl⟩))
  generalize hW2 : (w'.setCell ⟨B, off, none⟩ (.int .i64 V)) = W2 at *
  clear hW2 cB fB c1 HM
  obtain ⟨c2, c3⟩ := HF.out.2
  have hkI : (K : Int) ≤ (s.size : Int) := by omega
  by_cases q1 : (K : Int) = 2
  · have d1 : decide (K = 2) = true := by simp; omega
    by_cases q2 : lo ≤ V
    · have d2 : decide (lo ≤ V) = true := by simpa using q2
      by_cases q3 : V ≤ hi
      · have d3 : decide (V ≤ hi) = true := by simpa using q3
        go_quiet (fail)
        go_wp2_with fail
        go_ret2
        have hK2 : K = 2 := by omega
        subst hK2
        exact ⟨by rw [HO.out, d1, d2, d3]; rfl, HF.out.1 _⟩
      · have d3 : decide (V ≤ hi) = false := by simpa using q3
        go_quiet (fail)
        go_wp2_with fail
        go_ret2
        have hK2 : K = 2 := by omega
        subst hK2
        exact ⟨by rw [HO.out, d1, d2, d3]; rfl, HF.out.1 _⟩
    · have d2 : decide (lo ≤ V) = false := by simpa using q2
      go_quiet (fail)
      go_wp2_with fail
      go_ret2
      have hK2 : K = 2 := by omega
      subst hK2
      exact ⟨by rw [HO.out, d1, d2]; rfl, HF.out.1 _⟩
  · have d1 : decide (K = 2) = false := by simp; omega
    have q1' : decide ((K : Int) = 2) = false := by simpa using q1
    go_quiet (fail)
    go_wp2_with fail
    go_ret2
    exact ⟨by rw [HO.out, d1]; rfl, HF.out.1 _⟩
set_option maxHeartbeats 400000 in
theorem number_c (s : ByteArray) (b1 B off : Nat) (W : World) (cs : Array Value) (t : TypeId) (v : Value) (h1 : W.heap[b1]? = some (.cells #[.pointer (some ⟨B, off, none⟩)] 167 (0, 0)))
    (hB : W.heap[B]? = some (.cells cs t (0, 0))) (hv : cs[off]? = some v) (n1 : B ≠ b1) (hs : s.size ≤ maxLen) :
    Calls Tryz.prog 209 #[.string s, .pointer (some ⟨b1, 0, none⟩)] W fun e W' => e = .returned (.tuple #[.string (s.extract (dk 9 (bl s)) s.size), .bool (decide (0 < dk 9 (bl s)))]) ∧ W'.heap[B]? = some (.cells (cs.setIfInBounds off (.int .i64 (dvl ((bl s).take (dk 9 (bl s)))))) t (0, 0)) ∧ Fro (fun k => k = B) W W' := by
  have HM : Hid _ := And.intro (digits_p s 9 W hs (by omega)) trivial
  have c1 := cl1 h1
  obtain ⟨cB, fB⟩ := cl_at hB hv
  have hk := dk_le 9 (bl s)
  rw [bl_len] at hk
  generalize hV : dvl ((bl s).take (dk 9 (bl s))) = V at *
  generalize hK : dk 9 (bl s) = K at *
  clear hV hK
  obtain ⟨hk0, hk1, _⟩ := hk
  unfold maxLen at hs
  have HF : Hid _ := And.intro (bset (i := off) hB (.int .i64 V)) (fro_set W B off (.int .i64 V))
  have hkI : (K : Int) ≤ (s.size : Int) := by omega
  clear h1 hB hv
  go_enter Tryz.func209, Tryz.ntmps209
  go_wp2_with (first | (go_at_call 189; refine Calls.mono HM.out.1 ?_; rintro e w' ⟨rfl, rfl⟩))
  go_ret2
  exact ⟨rfl, HF.out⟩
/-- yearInto: what is left, whether it will do, the year. -/
def yrK (l : List Int) : List Int := if l.head? = some 45 then l.tail else l
def yrOk (l : List Int) : Bool := decide (4 ≤ dk 9 l) && decide (0 < dvl (l.take (dk 9 l))) && !(decide (4 < dk 9 l) && decide (l.head? = some 48))
def yrV (l : List Int) : Int := if l.head? = some 45 then - dvl ((yrK l).take (dk 9 (yrK l))) else dvl ((yrK l).take (dk 9 (yrK l)))
theorem head_get (s : ByteArray) (h : 0 < s.size) : (bl s).head? = some ((s[0]'h).toNat : Int) := by rw [bl_cons s h]; rfl
set_option maxHeartbeats 1000000 in
theorem year_c (s : ByteArray) (b1 B off : Nat) (W : World) (cs : Array Value) (t : TypeId) (v : Value) (h1 : W.heap[b1]? = some (.cells #[.pointer (some ⟨B, off, none⟩)] 167 (0, 0)))
    (hB : W.heap[B]? = some (.cells cs t (0, 0))) (hv : cs[off]? = some v) (n1 : B ≠ b1) (hs : s.size ≤ maxLen) :
    Calls Tryz.prog 188 #[.string s, .pointer (some ⟨b1, 0, none⟩)] W fun e W' => ∃ t' : ByteArray, e = .returned (.tuple #[.string t', .bool (yrOk (yrK (bl s)))]) ∧ bl t' = (yrK (bl s)).drop (dk 9 (yrK (bl s))) ∧ t'.size ≤ s.size ∧ W'.heap[B]? = some (.cells (cs.setIfInBounds off (.int .i64 (yrV (bl s)))) t (0, 0)) ∧ Fro (fun k => k = B) W W' := by
  have hm1 := cp_p s 45 W hs
  have e45 : ((45 : UInt8).toNat : Int) = 45 := rfl
  rw [e45] at hm1
  obtain ⟨r, hr⟩ : ∃ r, (if (bl s).head? = some 45 then s.extract 1 s.size else s) = r := ⟨_, rfl⟩
  have hbr : bl r = yrK (bl s) := by
    rw [← hr]
    unfold yrK
    by_cases h : (bl s).head? = some 45
    · rw [if_pos h, if_pos h, bl_ext, List.drop_one]
    · rw [if_neg h, if_neg h]
  have hrs : r.size ≤ s.size := by
    rw [← hr]
    split
    · rw [ByteArray.size_extract]; omega
    · omega
  rw [hr] at hm1
  clear hr
  have hm2 := digits_p r 9 W (by omega) (by omega)
  have hyv : yrV (bl s) = if (bl s).head? = some 45 then - dvl ((bl r).take (dk 9 (bl r))) else dvl ((bl r).take (dk 9 (bl r))) := by unfold yrV; rw [hbr]
  rw [← hbr]
  obtain ⟨neg, hneg⟩ : ∃ neg, decide ((bl s).head? = some 45) = neg := ⟨_, rfl⟩
  have hyv2 : yrV (bl s) = if neg = true then - dvl ((bl r).take (dk 9 (bl r))) else dvl ((bl r).take (dk 9 (bl r))) := by
    rw [hyv, ← hneg]
    simp
  rw [hneg] at hm1
  clear hyv hneg hbr
  have hk := dk_le 9 (bl r)
  rw [bl_len] at hk
  have hvb := dvl_bd (l := bl r) (j := dk 9 (bl r)) hk.2.2 (by omega)
  have hbt : ∀ K, bl (r.extract K r.size) = (bl r).drop K := fun K => bl_suf r K
  have hsz : ∀ K, (r.extract K r.size).size ≤ s.size := fun K => by rw [ByteArray.size_extract]; omega
  have hok : yrOk (bl r) = (decide (4 ≤ dk 9 (bl r)) && decide (0 < dvl ((bl r).take (dk 9 (bl r)))) && !(decide (4 < dk 9 (bl r)) && decide ((bl r).head? = some 48))) := rfl
  have h48 : ∀ h : 0 < r.size, decide ((bl r).head? = some 48) = decide (((r[0]'h).toNat : Int) = 48) := fun h => by rw [head_get r h]; simp
  generalize yrOk (bl r) = OKK at *
  generalize dvl ((bl r).take (dk 9 (bl r))) = V at *
  generalize hK : dk 9 (bl r) = K at *
  clear hK
  obtain ⟨hk0, hk1, _⟩ := hk
  obtain ⟨hv0, hv1⟩ := hvb
  have hb := hbt K
  have hz := hsz K
  clear hbt hsz
  generalize decide ((bl r).head? = some 48) = Z at *
  generalize (bl r).drop K = D at *
  have HZ : Hid _ := And.intro hb (And.intro hz (And.intro hok (And.intro hyv2 h48)))
  clear hb hz hok hyv2 h48
  generalize yrV (bl s) = YV at *
  have c1 := cl1 h1
  obtain ⟨cB, fB⟩ := cl_at hB hv
  have hfin : ∀ q, neg = false → (((W.setCell ⟨B, off, none⟩ (.int .i64 V)).drewN q).heap[B]? = some (.cells (cs.setIfInBounds off (.int .i64 YV)) t (0, 0))) ∧ Fro (fun k => k = B) W ((W.setCell ⟨B, off, none⟩ (.int .i64 V)).drewN q) := fun q hn => by
    have e : YV = V := by rw [HZ.out.2.2.2.1, hn]; rfl
    rw [e]
    exact ⟨bset hB _, (fro_set W B off _).drewN q⟩
  have hfin2 : ∀ q, neg = true → ((((W.setCell ⟨B, off, none⟩ (.int .i64 V)).setCell ⟨B, off, none⟩ (.int .i64 (-V))).drewN q).heap[B]? = some (.cells (cs.setIfInBounds off (.int .i64 YV)) t (0, 0))) ∧ Fro (fun k => k = B) W (((W.setCell ⟨B, off, none⟩ (.int .i64 V)).setCell ⟨B, off, none⟩ (.int .i64 (-V))).drewN q) := fun q hn => by
    have e : YV = -V := by rw [HZ.out.2.2.2.1, hn]; rfl
    rw [e]
    refine ⟨?_, (((Fro.refl (fun k => k = B) W).set (X := B) (i := off) (.inl rfl) _).set (X := B) (i := off) (.inl rfl) _).drewN q⟩
    have := bset (i := off) (bset (i := off) hB (.int .i64 V)) (.int .i64 (-V))
    have e2 := set_set cs off (.int .i64 V) (.int .i64 (-V))
    rw [e2] at this
    exact this
  have hg2 : (W.setCell ⟨B, off, none⟩ (.int .i64 V)).cell? ⟨b1, 0, none⟩ = some (.pointer (some ⟨B, off, none⟩)) := cl1 ((Below.heap_setCell _ _ _ _ (by simpa using n1.symm)).trans h1)
  have hg3 := bset (i := off) hB (.int .i64 V)
  obtain ⟨gB, hB3⟩ := cl_at (i := off) hg3 (set_get hv _)
  have HF : Hid _ := And.intro hfin (And.intro hfin2 (And.intro hg2 (And.intro gB hB3)))
  clear hfin hfin2 hg2 hg3 gB hB3 h1 hB hv
  have HM : Hid _ := And.intro hm1 hm2
  clear hm1 hm2
  unfold maxLen at hs
  have hkI : (K : Int) ≤ (r.size : Int) := by omega
  cases neg
  · go_enter Tryz.func188, Tryz.ntmps188
    go_wp2_with (first | (go_at_call 156; refine Calls.mono HM.out.1 ?_; rintro e w' ⟨rfl, rfl⟩) | (go_at_call 189; refine Calls.mono HM.out.2 ?_; rintro e w' ⟨rfl, rfl⟩))
    clear c1 cB fB HM
    by_cases q1 : 4 ≤ (K : Int)
    · have d1 : decide (4 ≤ K) = true := by simp; omega
      have hr0 : 0 < r.size := by omega
      have hz48 := HZ.out.2.2.2.2 hr0
      by_cases q2 : 0 < V
      · have d2 : decide (0 < V) = true := by simpa using q2
        by_cases q3 : 4 < (K : Int)
        · have d3 : decide (4 < K) = true := by simp; omega
          by_cases q4 : ((r[0]'hr0).toNat : Int) = 48
          · have d4 : Z = true := by rw [hz48]; simpa using q4
            clear hz48
            have hO : OKK = false := by rw [HZ.out.2.2.1, d1, d2, d3, d4]; rfl
            subst hO
            go_quiet (fail)
            go_wp2_with fail
            go_ret2
            exact ⟨r.extract K r.size, rfl, HZ.out.1, HZ.out.2.1, HF.out.1 _ (by first | rfl | trivial)⟩
          · have d4 : Z = false := by rw [hz48]; simpa using q4
            have d4' : (((r[0]'hr0).toNat : Int) == 48) = false := by simpa using q4
            clear hz48
            have hO : OKK = true := by rw [HZ.out.2.2.1, d1, d2, d3, d4]; rfl
            subst hO
            go_quiet (fail)
            go_wp2_with fail
            go_ret2
            exact ⟨r.extract K r.size, rfl, HZ.out.1, HZ.out.2.1, HF.out.1 _ (by first | rfl | trivial)⟩
        · have d3 : decide (4 < K) = false := by simp; omega
          have d3' : decide (4 < (K : Int)) = false := by simpa using q3
          clear hz48
          have hO : OKK = true := by rw [HZ.out.2.2.1, d1, d2, d3]; rfl
          subst hO
          go_quiet (fail)
          go_wp2_with fail
          go_ret2
          exact ⟨r.extract K r.size, rfl, HZ.out.1, HZ.out.2.1, HF.out.1 _ (by first | rfl | trivial)⟩
      · have d2 : decide (0 < V) = false := by simpa using q2
        clear hz48
        have hO : OKK = false := by rw [HZ.out.2.2.1, d1, d2]; rfl
        subst hO
        go_quiet (fail)
        go_wp2_with fail
        go_ret2
        exact ⟨r.extract K r.size, rfl, HZ.out.1, HZ.out.2.1, HF.out.1 _ (by first | rfl | trivial)⟩
    · have d1 : decide (4 ≤ K) = false := by simp; omega
      have d1' : decide (4 ≤ (K : Int)) = false := by simpa using q1
      have hO : OKK = false := by rw [HZ.out.2.2.1, d1]; rfl
      subst hO
      go_quiet (fail)
      go_wp2_with fail
      go_ret2
      exact ⟨r.extract K r.size, rfl, HZ.out.1, HZ.out.2.1, HF.out.1 _ (by first | rfl | trivial)⟩
  · obtain ⟨k1, k2, k3⟩ := HF.out.2.2
    go_enter Tryz.func188, Tryz.ntmps188
    go_wp2_with (first | (go_at_call 156; refine Calls.mono HM.out.1 ?_; rintro e w' ⟨rfl, rfl⟩) | (go_at_call 189; refine Calls.mono HM.out.2 ?_; rintro e w' ⟨rfl, rfl⟩))
    clear c1 cB fB HM k1 k2 k3
    by_cases q1 : 4 ≤ (K : Int)
    · have d1 : decide (4 ≤ K) = true := by simp; omega
      have hr0 : 0 < r.size := by omega
      have hz48 := HZ.out.2.2.2.2 hr0
      by_cases q2 : 0 < V
      · have d2 : decide (0 < V) = true := by simpa using q2
        by_cases q3 : 4 < (K : Int)
        · have d3 : decide (4 < K) = true := by simp; omega
          by_cases q4 : ((r[0]'hr0).toNat : Int) = 48
          · have d4 : Z = true := by rw [hz48]; simpa using q4
            clear hz48
            have hO : OKK = false := by rw [HZ.out.2.2.1, d1, d2, d3, d4]; rfl
            subst hO
            go_quiet (fail)
            go_wp2_with fail
            go_ret2
            exact ⟨r.extract K r.size, rfl, HZ.out.1, HZ.out.2.1, HF.out.2.1 _ (by first | rfl | trivial)⟩
          · have d4 : Z = false := by rw [hz48]; simpa using q4
            have d4' : (((r[0]'hr0).toNat : Int) == 48) = false := by simpa using q4
            clear hz48
            have hO : OKK = true := by rw [HZ.out.2.2.1, d1, d2, d3, d4]; rfl
            subst hO
            go_quiet (fail)
            go_wp2_with fail
            go_ret2
            exact ⟨r.extract K r.size, rfl, HZ.out.1, HZ.out.2.1, HF.out.2.1 _ (by first | rfl | trivial)⟩
        · have d3 : decide (4 < K) = false := by simp; omega
          have d3' : decide (4 < (K : Int)) = false := by simpa using q3
          clear hz48
          have hO : OKK = true := by rw [HZ.out.2.2.1, d1, d2, d3]; rfl
          subst hO
          go_quiet (fail)
          go_wp2_with fail
          go_ret2
          exact ⟨r.extract K r.size, rfl, HZ.out.1, HZ.out.2.1, HF.out.2.1 _ (by first | rfl | trivial)⟩
      · have d2 : decide (0 < V) = false := by simpa using q2
        clear hz48
        have hO : OKK = false := by rw [HZ.out.2.2.1, d1, d2]; rfl
        subst hO
        go_quiet (fail)
        go_wp2_with fail
        go_ret2
        exact ⟨r.extract K r.size, rfl, HZ.out.1, HZ.out.2.1, HF.out.2.1 _ (by first | rfl | trivial)⟩
    · have d1 : decide (4 ≤ K) = false := by simp; omega
      have d1' : decide (4 ≤ (K : Int)) = false := by simpa using q1
      have hO : OKK = false := by rw [HZ.out.2.2.1, d1]; rfl
      subst hO
      go_quiet (fail)
      go_wp2_with fail
      go_ret2
      exact ⟨r.extract K r.size, rfl, HZ.out.1, HZ.out.2.1, HF.out.2.1 _ (by first | rfl | trivial)⟩
end Go.Proofs.YtgaegajcejpmdaaGreatDoor.Dt
namespace Go.Proofs.YtgaegajcejpmdaaGreatDoor.Dt
open Go.RowKit
set_option linter.unusedVariables false

/-- fractionInto: what is left, whether it will do, the nanoseconds (none: they are left as they are). -/
def frG (l : List Int) : Option (Option Int × List Int) :=
  if l.head? = some 46 then (if dk 9 l.tail = 0 then none else some (some (dvl (l.tail.take (dk 9 l.tail)) * 10 ^ (9 - dk 9 l.tail)), l.tail.drop (dk 9 l.tail))) else some (none, l)
def FrP (s : ByteArray) (B off : Nat) (W : World) (cs : Array Value) (t : TypeId) (v : Value) (e : Ending) (W' : World) : Prop :=
  ∃ (t' : ByteArray) (u : Value), e = .returned (.tuple #[.string t', .bool (frG (bl s)).isSome]) ∧ t'.size ≤ s.size ∧ W'.heap[B]? = some (.cells (cs.setIfInBounds off u) t (0, 0)) ∧ Fro (fun k => k = B) W W' ∧ (∃ x, u = .int .i64 x ∧ 0 ≤ x ∧ x < 1000000000 ∨ u = v) ∧ (∀ x, frG (bl s) = some x → bl t' = x.2 ∧ u = (match x.1 with | some n => .int .i64 n | none => v))
set_option maxHeartbeats 1000000 in
theorem frac_c (s : ByteArray) (b1 B off : Nat) (W : World) (cs : Array Value) (t : TypeId) (v : Value) (h1 : W.heap[b1]? = some (.cells #[.pointer (some ⟨B, off, none⟩)] 167 (0, 0)))
    (hB : W.heap[B]? = some (.cells cs t (0, 0))) (hv : cs[off]? = some v) (n1 : B ≠ b1) (hs : s.size ≤ maxLen) :
    Calls Tryz.prog 193 #[.string s, .pointer (some ⟨b1, 0, none⟩)] W (FrP s B off W cs t v) := by
  have hm1 := cp_p s 46 W hs
  have e45 : ((46 : UInt8).toNat : Int) = 46 := rfl
  rw [e45] at hm1
  by_cases hp : (bl s).head? = some 46
  · rw [if_pos hp, decide_eq_true hp] at hm1
    obtain ⟨r, hr⟩ : ∃ r, s.extract 1 s.size = r := ⟨_, rfl⟩
    have hbr : bl r = (bl s).tail := by rw [← hr, bl_ext, List.drop_one]
    have hrs : r.size ≤ s.size := by rw [← hr, ByteArray.size_extract]; omega
    rw [hr] at hm1
    clear hr
    have hm2 := digits_p r 9 W (by omega) (by omega)
    have hfr : frG (bl s) = if dk 9 (bl r) = 0 then none else some (some (dvl ((bl r).take (dk 9 (bl r))) * 10 ^ (9 - dk 9 (bl r))), (bl r).drop (dk 9 (bl r))) := by unfold frG; rw [if_pos hp, hbr]
    clear hp hbr e45
    have hk := dk_le 9 (bl r)
    rw [bl_len] at hk
    have hvb := dvl_in _ (dgs_take (l := bl r) (n := dk 9 (bl r)) hk.2.2).1
    rw [(dgs_take (l := bl r) (n := dk 9 (bl r)) hk.2.2).2] at hvb
    have hb := bl_suf r (dk 9 (bl r))
    have hz : (r.extract (dk 9 (bl r)) r.size).size ≤ s.size := by rw [ByteArray.size_extract]; omega
    generalize dvl ((bl r).take (dk 9 (bl r))) = V at *
    generalize hK : dk 9 (bl r) = K at *
    clear hK
    generalize (bl r).drop K = D at *
    obtain ⟨hk0, hk1, _⟩ := hk
    have hpw : ∀ j : Nat, j ≤ 9 - K → 0 ≤ V * 10 ^ j ∧ V * 10 ^ j < 1000000000 := by
      intro j hj
      have p1 : (0 : Int) < 10 ^ j := Int.pow_pos (by omega)
      refine ⟨Int.mul_nonneg hvb.1 (by omega), ?_⟩
      have p2 : V * 10 ^ j < 10 ^ K * 10 ^ j := Int.mul_lt_mul_of_pos_right hvb.2 p1
      rw [← Int.pow_add] at p2
      have p3 : (10 : Int) ^ (K + j) ≤ 10 ^ 9 := by
        have : (10 : Nat) ^ (K + j) ≤ 10 ^ 9 := Nat.pow_le_pow_right (by omega) (by omega)
        exact_mod_cast this
      omega
    have hps : ∀ j : Nat, V * 10 ^ (j + 1) = V * 10 ^ j * 10 := fun j => by rw [Int.pow_succ, Int.mul_assoc]
    have c1 := cl1 h1
    obtain ⟨cB, fB⟩ := cl_at hB hv
    have hfin : ∀ x : Int, (W.setCell ⟨B, off, none⟩ (.int .i64 x)).heap[B]? = some (.cells (cs.setIfInBounds off (.int .i64 x)) t (0, 0)) ∧ Fro (fun k => k = B) W (W.setCell ⟨B, off, none⟩ (.int .i64 x)) := fun x => ⟨bset hB _, fro_set W B off _⟩
    have HM : Hid _ := And.intro hm1 hm2
    have HF : Hid _ := And.intro hfin (And.intro hpw (And.intro hps (And.intro hfr (And.intro hb hz))))
    clear hm1 hm2 hfin hpw hps hfr hb hz h1 hB hv hvb
    unfold maxLen at hs
    have hkI : (K : Int) ≤ (r.size : Int) := by omega
    have hk9 : (K : Int) ≤ 9 := by omega
    go_enter Tryz.func193, Tryz.ntmps193
    go_wp2_with (first | (go_at_call 156; refine Calls.mono HM.out.1 ?_; rintro e w' ⟨rfl, hw⟩; have hw2 := hw.symm; clear hw; subst hw2) | (go_at_call 189; refine Calls.mono HM.out.2 ?_; rintro e w' ⟨rfl, hw⟩; have hw2 := hw.symm; clear hw; subst hw2))
    go_loopg [6, 23] (9 - K) (fun g v6 v23 wr => ∃ j : Nat, j + g = 9 - K ∧ v23 = .int .i64 (j : Int) ∧ v6 = .int .i64 (V * 10 ^ j) ∧ wr = W)
    case atStart => exact ⟨0, by omega, rfl, by simp, rfl⟩
    case round =>
      obtain ⟨j, hjg, rfl, rfl, hwr⟩ := hrel
      have hw3 := hwr.symm
      clear hwr
      subst hw3
      obtain ⟨hp0, hp1⟩ := HF.out.2.1 j (by omega)
      have hnx := HF.out.2.2.1 j
      have HNX : Hid _ := hnx
      clear hnx
      by_cases hlt : (j : Int) < 9 - (K : Int)
      · obtain ⟨g, rfl⟩ : ∃ g, gk = g + 1 := ⟨gk - 1, by omega⟩
        obtain ⟨hq0, hq1⟩ := HF.out.2.1 (j + 1) (by omega)
        rw [HNX.out] at hq0 hq1
        generalize V * 10 ^ j = X at *
        go_wp2_with fail
        go_roundg g
        case measure => omega
        case rel => exact ⟨j + 1, by omega, by simp, by rw [HNX.out], rfl⟩
      · have hjK : j = 9 - K := by omega
        subst hjK
        generalize hX : V * 10 ^ (9 - K) = X at *
        go_wp2_with fail
        go_ret2
        have hfr := HF.out.2.2.2.1
        refine ⟨r.extract K r.size, .int .i64 X, ?_, HF.out.2.2.2.2.2, (HF.out.1 X).1, (HF.out.1 X).2, ⟨X, .inl ⟨rfl, hp0, hp1⟩⟩, ?_⟩
        · rw [hfr]
          by_cases h0 : K = 0
          · subst h0; rfl
          · rw [if_neg h0]
            have : decide (0 < K) = true := by simp; omega
            simp [this]
        · intro x hx
          rw [hfr] at hx
          split at hx
          · cases hx
          · cases hx
            exact ⟨HF.out.2.2.2.2.1, rfl⟩
  · rw [if_neg hp, decide_eq_false hp] at hm1
    have hfr : frG (bl s) = some (none, bl s) := by unfold frG; rw [if_neg hp]
    have HFR : Hid _ := hfr
    have HM : Hid _ := And.intro hm1 trivial
    have HF : Hid (W.heap[B]? = some (.cells (cs.setIfInBounds off v) t (0, 0))) := (by
      rw [hB]
      have e : cs.setIfInBounds off v = cs := by
        obtain ⟨hlt, hh⟩ := Array.getElem?_eq_some_iff.1 hv
        apply Array.ext
        · simp
        · intro i h1 h2
          rw [Array.getElem_setIfInBounds]
          split
          · rename_i q; subst q; exact hh.symm
          · rfl
      rw [e] : W.heap[B]? = some (.cells (cs.setIfInBounds off v) t (0, 0)))
    clear hm1 hp hB hv h1 hfr
    go_enter Tryz.func193, Tryz.ntmps193
    go_wp2_with (first | (go_at_call 156; refine Calls.mono HM.out.1 ?_; rintro e w' ⟨rfl, rfl⟩))
    go_ret2
    refine ⟨s, v, ?_, Nat.le_refl _, HF.out, Fro.refl _ _, ⟨0, .inr rfl⟩, fun x hx => by rw [HFR.out] at hx; cases hx; exact ⟨rfl, rfl⟩⟩
    rw [HFR.out]; rfl
end Go.Proofs.YtgaegajcejpmdaaGreatDoor.Dt
namespace Go.Proofs.YtgaegajcejpmdaaGreatDoor.Dt
open Go.RowKit
set_option linter.unusedVariables false

abbrev pt (b : Nat) : Value := .pointer (some ⟨b, 0, none⟩)
theorem en_mark : ∀ args w, (callFunc 187 args).run Tryz.prog w = .ok (.enter 187 args) w := enters_of Tryz.func187 (by kernel_rfl) rfl
theorem en_two : ∀ args w, (callFunc 190 args).run Tryz.prog w = .ok (.enter 190 args) w := enters_of Tryz.func190 (by kernel_rfl) rfl
theorem en_year : ∀ args w, (callFunc 188 args).run Tryz.prog w = .ok (.enter 188 args) w := enters_of Tryz.func188 (by kernel_rfl) rfl
theorem en_frac : ∀ args w, (callFunc 193 args).run Tryz.prog w = .ok (.enter 193 args) w := enters_of Tryz.func193 (by kernel_rfl) rfl
theorem en_num : ∀ args w, (callFunc 209 args).run Tryz.prog w = .ok (.enter 209 args) w := enters_of Tryz.func209 (by kernel_rfl) rfl
/-- A mark. -/
def gMk {σ : Type} (c : Int) : Gd σ := fun a l => if l.head? = some c then some (a, l.tail) else none
theorem fc_mark {σ : Type} {U : World} {O : Nat → Prop} {St : σ → World → Prop} (c : UInt8) (b : Nat) (h : U.heap[b]? = some (.cells #[.string ⟨#[c]⟩] 9 (0, 0))) (o : ¬ O b) : FC U O St (187, #[pt b]) (gMk (c.toNat : Int)) := by
  refine ⟨en_mark, fun W a s hW ha hs => ?_⟩
  refine Calls.mono (mark_c s c b W (hW.at h o) hs) ?_
  rintro e w' ⟨rfl, rfl⟩
  refine ⟨_, _, a, rfl, hW, ha, ?_, ?_⟩
  · split
    · rw [ByteArray.size_extract]; omega
    · exact Nat.le_refl _
  · unfold gMk
    by_cases hh : (bl s).head? = some (c.toNat : Int)
    · rw [if_pos hh]
      simp only [hh]
      simp [bl_ext, List.drop_one]
    · rw [if_neg hh]
      simp [hh]
/-- A cell of the state that a closure writes. -/
def CellSt {σ : Type} (St : σ → World → Prop) (B off : Nat) (set : σ → Int → σ) : Prop :=
  ∀ a W, St a W → ∃ (cs : Array Value) (t : TypeId) (v : Value), W.heap[B]? = some (.cells cs t (0, 0)) ∧ cs[off]? = some v ∧ ∀ (n : Int) W', -1000000000 < n → n < 1000000000 → W'.heap[B]? = some (.cells (cs.setIfInBounds off (.int .i64 n)) t (0, 0)) → Fro (fun k => k = B) W W' → St (set a n) W'
theorem fro_in {O : Nat → Prop} {U W W' : World} {B : Nat} (hW : Fro O U W) (h : Fro (fun k => k = B) W W') (hB : O B) : Fro O U W' := hW.trans' h (fun i _ e => by rw [e]; exact hB)
theorem fc_two {σ : Type} {U : World} {O : Nat → Prop} {St : σ → World → Prop} (b1 b2 b3 B off : Nat) (lo hi : Int) (set : σ → Int → σ)
    (h1 : U.heap[b1]? = some (.cells #[.pointer (some ⟨B, off, none⟩)] 167 (0, 0))) (h2 : U.heap[b2]? = some (.cells #[.int .i64 lo] 3 (0, 0))) (h3 : U.heap[b3]? = some (.cells #[.int .i64 hi] 3 (0, 0)))
    (o1 : ¬ O b1) (o2 : ¬ O b2) (o3 : ¬ O b3) (hB : O B) (hst : CellSt St B off set) :
    FC U O St (190, #[pt b1, pt b2, pt b3]) (fun a l => (inB lo hi l).map fun x => (set a x.1, x.2)) := by
  refine ⟨en_two, fun W a s hW ha hs => ?_⟩
  obtain ⟨cs, t, v, hc, hv, hn⟩ := hst a W ha
  have hk := dk_le 2 (bl s)
  have hvb := dvl_bd (l := bl s) (j := dk 2 (bl s)) hk.2.2 (by omega)
  refine Calls.mono (two_c s b1 b2 b3 B off lo hi W cs t v (hW.at h1 o1) (hW.at h2 o2) (hW.at h3 o3) hc hv (fun e => o1 (e ▸ hB)) (fun e => o2 (e ▸ hB)) (fun e => o3 (e ▸ hB)) hs) ?_
  rintro e w' ⟨rfl, hx, hf⟩
  refine ⟨_, _, set a (dvl ((bl s).take (dk 2 (bl s)))), rfl, fro_in hW hf hB, hn _ _ (by omega) (by omega) hx hf, ?_, ?_⟩
  · rw [ByteArray.size_extract]; omega
  · rw [two_in]
    cases twOk lo hi (bl s)
    · rfl
    · exact ⟨rfl, rfl, bl_suf s _⟩
theorem fc_num {σ : Type} {U : World} {O : Nat → Prop} {St : σ → World → Prop} (b1 B off : Nat) (set : σ → Int → σ)
    (h1 : U.heap[b1]? = some (.cells #[.pointer (some ⟨B, off, none⟩)] 167 (0, 0)))
    (o1 : ¬ O b1) (hB : O B) (hst : CellSt St B off set) :
    FC U O St (209, #[pt b1]) (fun a l => if 0 < dk 9 l then some (set a (dvl (l.take (dk 9 l))), l.drop (dk 9 l)) else none) := by
  refine ⟨en_num, fun W a s hW ha hs => ?_⟩
  obtain ⟨cs, t, v, hc, hv, hn⟩ := hst a W ha
  have hk := dk_le 9 (bl s)
  have hvb := dvl_bd (l := bl s) (j := dk 9 (bl s)) hk.2.2 (by omega)
  refine Calls.mono (number_c s b1 B off W cs t v (hW.at h1 o1) hc hv (fun e => o1 (e ▸ hB)) hs) ?_
  rintro e w' ⟨rfl, hx, hf⟩
  refine ⟨_, _, set a (dvl ((bl s).take (dk 9 (bl s)))), rfl, fro_in hW hf hB, hn _ _ (by omega) (by omega) hx hf, ?_, ?_⟩
  · rw [ByteArray.size_extract]; omega
  · by_cases h0 : 0 < dk 9 (bl s)
    · rw [if_pos h0]
      exact ⟨by simpa using h0, rfl, bl_suf s _⟩
    · rw [if_neg h0]
      simpa using h0
theorem fc_year {σ : Type} {U : World} {O : Nat → Prop} {St : σ → World → Prop} (b1 B off : Nat) (set : σ → Int → σ)
    (h1 : U.heap[b1]? = some (.cells #[.pointer (some ⟨B, off, none⟩)] 167 (0, 0)))
    (o1 : ¬ O b1) (hB : O B) (hst : CellSt St B off set) :
    FC U O St (188, #[pt b1]) (fun a l => if yrOk (yrK l) then some (set a (yrV l), (yrK l).drop (dk 9 (yrK l))) else none) := by
  refine ⟨en_year, fun W a s hW ha hs => ?_⟩
  obtain ⟨cs, t, v, hc, hv, hn⟩ := hst a W ha
  have hvb := dvl_bd (l := yrK (bl s)) (j := dk 9 (yrK (bl s))) (dk_le 9 _).2.2 (dk_le 9 _).1
  have hy : -1000000000 < yrV (bl s) ∧ yrV (bl s) < 1000000000 := by unfold yrV; split <;> omega
  refine Calls.mono (year_c s b1 B off W cs t v (hW.at h1 o1) hc hv (fun e => o1 (e ▸ hB)) hs) ?_
  rintro e w' ⟨t', rfl, hbt, hts, hx, hf⟩
  refine ⟨_, _, set a (yrV (bl s)), rfl, fro_in hW hf hB, hn _ _ hy.1 hy.2 hx hf, hts, ?_⟩
  cases hq : yrOk (yrK (bl s))
  · rfl
  · exact ⟨rfl, rfl, hbt⟩
theorem fc_frac {σ : Type} {U : World} {O : Nat → Prop} {St : σ → World → Prop} (b1 B off : Nat) (set : σ → Int → σ)
    (h1 : U.heap[b1]? = some (.cells #[.pointer (some ⟨B, off, none⟩)] 167 (0, 0)))
    (o1 : ¬ O b1) (hB : O B) (hst : CellSt St B off set)
    (hst0 : ∀ a W, St a W → ∀ W' (cs : Array Value) (t : TypeId) (v : Value), W.heap[B]? = some (.cells cs t (0, 0)) → cs[off]? = some v → W'.heap[B]? = some (.cells (cs.setIfInBounds off v) t (0, 0)) → Fro (fun k => k = B) W W' → St a W') :
    FC U O St (193, #[pt b1]) (fun a l => (frG l).map fun x => (match x.1 with | some n => set a n | none => a, x.2)) := by
  refine ⟨en_frac, fun W a s hW ha hs => ?_⟩
  obtain ⟨cs, t, v, hc, hv, hn⟩ := hst a W ha
  refine Calls.mono (frac_c s b1 B off W cs t v (hW.at h1 o1) hc hv (fun e => o1 (e ▸ hB)) hs) ?_
  rintro e w' ⟨t', u, rfl, hts, hx, hf, hu, hm⟩
  cases hg : frG (bl s) with
  | none =>
    obtain ⟨x, hu | hu⟩ := hu
    · obtain ⟨rfl, x0, x1⟩ := hu
      exact ⟨t', _, set a x, rfl, fro_in hW hf hB, hn _ _ (by omega) (by omega) hx hf, hts, by simp⟩
    · subst hu
      exact ⟨t', _, a, rfl, fro_in hW hf hB, hst0 a W ha w' cs t u hc hv hx hf, hts, by simp⟩
  | some x =>
    obtain ⟨hbt, hux⟩ := hm x hg
    obtain ⟨o, l1⟩ := x
    cases o with
    | none =>
      dsimp only at hux
      subst hux
      exact ⟨t', _, a, rfl, fro_in hW hf hB, hst0 a W ha w' cs t u hc hv hx hf, hts, by simp; exact hbt⟩
    | some n =>
      dsimp only at hux
      subst hux
      have hn2 : 0 ≤ n ∧ n < 1000000000 := by
        obtain ⟨y, hu | hu⟩ := hu
        · obtain ⟨e, y0, y1⟩ := hu
          cases e
          exact ⟨y0, y1⟩
        · unfold frG at hg
          split at hg
          · split at hg
            · cases hg
            · cases hg
              have hk := dk_le 9 (bl s).tail
              have hvb := dvl_in _ (dgs_take (l := (bl s).tail) (n := dk 9 (bl s).tail) hk.2.2).1
              rw [(dgs_take (l := (bl s).tail) (n := dk 9 (bl s).tail) hk.2.2).2] at hvb
              have p1 : (0 : Int) < 10 ^ (9 - dk 9 (bl s).tail) := Int.pow_pos (by omega)
              refine ⟨Int.mul_nonneg hvb.1 (by omega), ?_⟩
              have p2 := Int.mul_lt_mul_of_pos_right hvb.2 p1
              rw [← Int.pow_add, show dk 9 (bl s).tail + (9 - dk 9 (bl s).tail) = 9 by omega] at p2
              simpa using p2
          · cases hg
      exact ⟨t', _, set a n, rfl, fro_in hW hf hB, hn _ _ (by omega) (by omega) hx hf, hts, by simp; exact hbt⟩
/-! The makers. -/
theorem mk_mark (v : ByteArray) (w : World) : Calls Tryz.prog 159 #[.string v] w fun e w' => ∃ b, e = .returned (fnV (187, #[pt b])) ∧ w.heap.size ≤ b ∧ w'.heap[b]? = some (.cells #[.string v] 9 (0, 0)) ∧ Below w.heap.size w w' := by
  go_enter Tryz.func159, Tryz.ntmps159
  go_wp2_with fail
  go_ret
  exact ⟨w.heap.size, rfl, Nat.le_refl _, nw_heap _ _, (Below.refl _ _).alloc (Nat.le_refl _) _⟩
theorem box3' (w : World) (A B C : Obj) : (((w.alloc A).alloc B).alloc C).heap[w.heap.size]? = some A ∧ (((w.alloc A).alloc B).alloc C).heap[w.heap.size + 1]? = some B ∧ (((w.alloc A).alloc B).alloc C).heap[w.heap.size + 1 + 1]? = some C ∧ Below w.heap.size w (((w.alloc A).alloc B).alloc C) := by
  have hA := nw_heap w A
  have hB := nw_heap (w.alloc A) B
  have hC := nw_heap ((w.alloc A).alloc B) C
  have b1 : Below (w.alloc A).heap.size (w.alloc A) ((w.alloc A).alloc B) := (Below.refl _ _).alloc (Nat.le_refl _) _
  have b2 : Below ((w.alloc A).alloc B).heap.size ((w.alloc A).alloc B) (((w.alloc A).alloc B).alloc C) := (Below.refl _ _).alloc (Nat.le_refl _) _
  rw [sza] at hB
  rw [sza, sza] at hC
  refine ⟨(b2.block _ (by simp; omega)).trans ((b1.block _ (by simp)).trans hA), (b2.block _ (by simp)).trans hB, hC, ?_⟩
  exact (((Below.refl _ _).alloc (Nat.le_refl _) _).alloc (by simp) _).alloc (by simp; omega) _
theorem mk_two (p : Option Addr) (lo hi : Int) (w : World) : Calls Tryz.prog 161 #[.pointer p, .int .i64 lo, .int .i64 hi] w fun e w' => e = .returned (fnV (190, #[pt w.heap.size, pt (w.heap.size + 1), pt (w.heap.size + 1 + 1)])) ∧ (w'.heap[w.heap.size]? = some (.cells #[.pointer p] 167 (0, 0)) ∧ w'.heap[w.heap.size + 1]? = some (.cells #[.int .i64 lo] 3 (0, 0)) ∧ w'.heap[w.heap.size + 1 + 1]? = some (.cells #[.int .i64 hi] 3 (0, 0)) ∧ Below w.heap.size w w') := by
  have HB : Hid _ := box3' w (.cells #[.pointer p] 167) (.cells #[.int .i64 lo] 3) (.cells #[.int .i64 hi] 3)
  go_enter Tryz.func161, Tryz.ntmps161
  go_wp2_with fail
  go_ret
  exact ⟨rfl, HB.out⟩
theorem mk_year (p : Option Addr) (w : World) : Calls Tryz.prog 160 #[.pointer p] w fun e w' => ∃ b, e = .returned (fnV (188, #[pt b])) ∧ w.heap.size ≤ b ∧ w'.heap[b]? = some (.cells #[.pointer p] 167 (0, 0)) ∧ Below w.heap.size w w' := by
  go_enter Tryz.func160, Tryz.ntmps160
  go_wp2_with fail
  go_ret
  exact ⟨w.heap.size, rfl, Nat.le_refl _, nw_heap _ _, (Below.refl _ _).alloc (Nat.le_refl _) _⟩
theorem mk_day (p : Option Addr) (w : World) : Calls Tryz.prog 162 #[.pointer p] w fun e w' => ∃ b, e = .returned (fnV (191, #[pt b])) ∧ w.heap.size ≤ b ∧ w'.heap[b]? = some (.cells #[.pointer p] 143 (0, 0)) ∧ Below w.heap.size w w' := by
  go_enter Tryz.func162, Tryz.ntmps162
  go_wp2_with fail
  go_ret
  exact ⟨w.heap.size, rfl, Nat.le_refl _, nw_heap _ _, (Below.refl _ _).alloc (Nat.le_refl _) _⟩
theorem mk_clock (p : Option Addr) (w : World) : Calls Tryz.prog 163 #[.pointer p] w fun e w' => ∃ b, e = .returned (fnV (192, #[pt b])) ∧ w.heap.size ≤ b ∧ w'.heap[b]? = some (.cells #[.pointer p] 167 (0, 0)) ∧ Below w.heap.size w w' := by
  go_enter Tryz.func163, Tryz.ntmps163
  go_wp2_with fail
  go_ret
  exact ⟨w.heap.size, rfl, Nat.le_refl _, nw_heap _ _, (Below.refl _ _).alloc (Nat.le_refl _) _⟩
theorem mk_frac (p : Option Addr) (w : World) : Calls Tryz.prog 164 #[.pointer p] w fun e w' => ∃ b, e = .returned (fnV (193, #[pt b])) ∧ w.heap.size ≤ b ∧ w'.heap[b]? = some (.cells #[.pointer p] 167 (0, 0)) ∧ Below w.heap.size w w' := by
  go_enter Tryz.func164, Tryz.ntmps164
  go_wp2_with fail
  go_ret
  exact ⟨w.heap.size, rfl, Nat.le_refl _, nw_heap _ _, (Below.refl _ _).alloc (Nat.le_refl _) _⟩
theorem mk_zone (p : Option Addr) (w : World) : Calls Tryz.prog 165 #[.pointer p] w fun e w' => ∃ b, e = .returned (fnV (194, #[pt b])) ∧ w.heap.size ≤ b ∧ w'.heap[b]? = some (.cells #[.pointer p] 143 (0, 0)) ∧ Below w.heap.size w w' := by
  go_enter Tryz.func165, Tryz.ntmps165
  go_wp2_with fail
  go_ret
  exact ⟨w.heap.size, rfl, Nat.le_refl _, nw_heap _ _, (Below.refl _ _).alloc (Nat.le_refl _) _⟩
theorem mk_num (p : Option Addr) (w : World) : Calls Tryz.prog 185 #[.pointer p] w fun e w' => ∃ b, e = .returned (fnV (209, #[pt b])) ∧ w.heap.size ≤ b ∧ w'.heap[b]? = some (.cells #[.pointer p] 167 (0, 0)) ∧ Below w.heap.size w w' := by
  go_enter Tryz.func185, Tryz.ntmps185
  go_wp2_with fail
  go_ret
  exact ⟨w.heap.size, rfl, Nat.le_refl _, nw_heap _ _, (Below.refl _ _).alloc (Nat.le_refl _) _⟩
end Go.Proofs.YtgaegajcejpmdaaGreatDoor.Dt
