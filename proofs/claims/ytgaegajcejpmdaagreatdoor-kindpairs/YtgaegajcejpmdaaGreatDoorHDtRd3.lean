/- The program's closures: mark, two, number, yearInto. -/
import Derived.Test.YtgaegajcejpmdaaGreatDoorHJ24
namespace Go.Proofs.YtgaegajcejpmdaaGreatDoor.Dt
open Go.RowKit
set_option linter.unusedVariables false

theorem cl1 {W : World} {X : Nat} {v : Value} {t : TypeId} (h : W.heap[X]? = some (.cells #[v] t (0, 0))) : W.cell? ⟨X, 0, none⟩ = some v := by simp [World.cell?, h]
theorem cl_at {W : World} {X i : Nat} {cs : Array Value} {t : TypeId} {v : Value} (h : W.heap[X]? = some (.cells cs t (0, 0))) (hi : cs[i]? = some v) : W.cell? ⟨X, i, none⟩ = some v ∧ W.frozen? ⟨X, i, none⟩ = false := by
  refine ⟨by simp [World.cell?, h, hi], by simp [World.frozen?, h]⟩
theorem fro_set (W : World) (X i : Nat) (u : Value) : Fro (fun k => k = X) W (W.setCell ⟨X, i, none⟩ u) := (Fro.refl (fun k => k = X) W).set (X := X) (i := i) (.inl rfl) u
theorem set_get {cs : Array Value} {i : Nat} {v : Value} (h : cs[i]? = some v) (u : Value) : (cs.setIfInBounds i u)[i]? = some u := by
  have hlt : i < cs.size := (Array.getElem?_eq_some_iff.1 h).1
  rw [Array.getElem?_setIfInBounds]
  simp [hlt]
theorem set_set (cs : Array Value) (i : Nat) (u v : Value) : (cs.setIfInBounds i u).setIfInBounds i v = cs.setIfInBounds i v := by
  apply Array.toList_inj.1
  simp
/-- mark. -/
def mkG (c : Int) (l : List Int) : List Int × Bool := if l.head? = some c then (l.tail, true) else (l, false)
set_option maxHeartbeats 400000 in
theorem mark_c (s : ByteArray) (c : UInt8) (b : Nat) (W : World) (hb : W.heap[b]? = some (.cells #[.string ⟨#[c]⟩] 9 (0, 0))) (hs : s.size ≤ maxLen) :
    Calls Tryz.prog 187 #[.string s, .pointer (some ⟨b, 0, none⟩)] W fun e W' => e = .returned (.tuple #[.string (if (bl s).head? = some (c.toNat : Int) then s.extract 1 s.size else s), .bool (decide ((bl s).head? = some (c.toNat : Int)))]) ∧ W' = W := by
  have HM : Hid _ := And.intro (cp_p s c W hs) trivial
  have hc := cl1 hb
  clear hb
  generalize (if (bl s).head? = some (c.toNat : Int) then s.extract 1 s.size else s) = r at *
  generalize (decide ((bl s).head? = some (c.toNat : Int))) = b at *
  go_enter Tryz.func187, Tryz.ntmps187
  go_wp2_with (first | (go_at_call 156; refine Calls.mono HM.out.1 ?_; rintro e w' ⟨rfl, rfl⟩))
  go_ret2
  exact ⟨rfl, rfl⟩
/-- two: how many digits, their number, whether it will do. -/
def twOk (lo hi : Int) (l : List Int) : Bool := decide (dk 2 l = 2) && decide (lo ≤ dvl (l.take (dk 2 l))) && decide (dvl (l.take (dk 2 l)) ≤ hi)
theorem dk_le (m : Nat) (l : List Int) : dk m l ≤ m ∧ dk m l ≤ l.length ∧ dk m l ≤ dgs l := by
  have := dgs_len l
  unfold dk
  omega
theorem two_in (lo hi : Int) (l : List Int) : inB lo hi l = if twOk lo hi l then some (dvl (l.take (dk 2 l)), l.drop (dk 2 l)) else none := by
  unfold inB nmB twOk
  by_cases h : dgs l < 2
  · have : ¬ dk 2 l = 2 := by unfold dk; omega
    rw [if_pos h]
    simp [this]
  · have : dk 2 l = 2 := by unfold dk; omega
    rw [if_neg h, this]
    simp only [Option.bind_some]
    by_cases h1 : lo ≤ dvl (l.take 2)
    · by_cases h2 : dvl (l.take 2) ≤ hi
      · rw [if_neg (by omega)]; simp [h1, h2]
      · rw [if_pos (by omega)]; simp [h2]
    · rw [if_pos (by omega)]; simp [h1]
set_option maxHeartbeats 800000 in
theorem two_c (s : ByteArray) (b1 b2 b3 B off : Nat) (lo hi : Int) (W : World) (cs : Array Value) (t : TypeId) (v : Value) (h1 : W.heap[b1]? = some (.cells #[.pointer (some ⟨B, off, none⟩)] 167 (0, 0))) (h2 : W.heap[b2]? = some (.cells #[.int .i64 lo] 3 (0, 0))) (h3 : W.heap[b3]? = some (.cells #[.int .i64 hi] 3 (0, 0)))
    (hB : W.heap[B]? = some (.cells cs t (0, 0))) (hv : cs[off]? = some v) (n1 : B ≠ b1) (n2 : B ≠ b2) (n3 : B ≠ b3) (hs : s.size ≤ maxLen) :
    Calls Tryz.prog 190 #[.string s, .pointer (some ⟨b1, 0, none⟩), .pointer (some ⟨b2, 0, none⟩), .pointer (some ⟨b3, 0, none⟩)] W fun e W' => e = .returned (.tuple #[.string (s.extract (dk 2 (bl s)) s.size), .bool (twOk lo hi (bl s))]) ∧ W'.heap[B]? = some (.cells (cs.setIfInBounds off (.int .i64 (dvl ((bl s).take (dk 2 (bl s)))))) t (0, 0)) ∧ Fro (fun k => k = B) W W' := by
  have HM : Hid _ := And.intro (digits_p s 2 W hs (by omega)) trivial
  have c1 := cl1 h1
  obtain ⟨cB, fB⟩ := cl_at hB hv
  have hk := dk_le 2 (bl s)
  rw [bl_len] at hk
  have hvb := dvl_bd (l := bl s) (j := dk 2 (bl s)) hk.2.2 (by omega)
  have HO : Hid (twOk lo hi (bl s) = (decide (dk 2 (bl s) = 2) && decide (lo ≤ dvl ((bl s).take (dk 2 (bl s)))) && decide (dvl ((bl s).take (dk 2 (bl s))) ≤ hi))) := (rfl : twOk lo hi (bl s) = _)
  generalize twOk lo hi (bl s) = OKK at *
  generalize hV : dvl ((bl s).take (dk 2 (bl s))) = V at *
  generalize hK : dk 2 (bl s) = K at *
  clear hV hK
  obtain ⟨hk0, hk1, _⟩ := hk
  obtain ⟨hv0, hv1⟩ := hvb
  unfold maxLen at hs
  have hfin : ∀ q, (((W.setCell ⟨B, off, none⟩ (.int .i64 V)).drewN q).heap[B]? = some (.cells (cs.setIfInBounds off (.int .i64 V)) t (0, 0))) ∧ Fro (fun k => k = B) W ((W.setCell ⟨B, off, none⟩ (.int .i64 V)).drewN q) := fun q => ⟨bset hB _, (fro_set W B off _).drewN q⟩
  have c2 : (W.setCell ⟨B, off, none⟩ (.int .i64 V)).cell? ⟨b2, 0, none⟩ = some (.int .i64 lo) := cl1 ((Below.heap_setCell _ _ _ _ (by simpa using n2.symm)).trans h2)
  have c3 : (W.setCell ⟨B, off, none⟩ (.int .i64 V)).cell? ⟨b3, 0, none⟩ = some (.int .i64 hi) := cl1 ((Below.heap_setCell _ _ _ _ (by simpa using n3.symm)).trans h3)
  have HF : Hid _ := And.intro hfin (And.intro c2 c3)
  clear hfin c2 c3 h1 h2 h3 hB hv
  go_enter Tryz.func190, Tryz.ntmps190
  go_wp2_with (first | (go_at_call 189; refine Calls.mono HM.out.1 ?_; rintro e w' ⟨rfl, rfl⟩))
  generalize hW2 : (w'.setCell ⟨B, off, none⟩ (.int .i64 V)) = W2 at *
  clear hW2 cB fB c1 HM
  obtain ⟨c2, c3⟩ := HF.out.2
  have hkI : (K : Int) ≤ (s.size : Int) := by omega
  by_cases q1 : (K : Int) = 2
  · have d1 : decide (K = 2) = true := by simp; omega
    by_cases q2 : lo ≤ V
    · have d2 : decide (lo ≤ V) = true := by simpa using q2
      by_cases q3 : V ≤ hi
      · have d3 : decide (V ≤ hi) = true := by simpa using q3
        go_quiet (fail)
        go_wp2_with fail
        go_ret2
        have hK2 : K = 2 := by omega
        subst hK2
        exact ⟨by rw [HO.out, d1, d2, d3]; rfl, HF.out.1 _⟩
      · have d3 : decide (V ≤ hi) = false := by simpa using q3
        go_quiet (fail)
        go_wp2_with fail
        go_ret2
        have hK2 : K = 2 := by omega
        subst hK2
        exact ⟨by rw [HO.out, d1, d2, d3]; rfl, HF.out.1 _⟩
    · have d2 : decide (lo ≤ V) = false := by simpa using q2
      go_quiet (fail)
      go_wp2_with fail
      go_ret2
      have hK2 : K = 2 := by omega
      subst hK2
      exact ⟨by rw [HO.out, d1, d2]; rfl, HF.out.1 _⟩
  · have d1 : decide (K = 2) = false := by simp; omega
    have q1' : decide ((K : Int) = 2) = false := by simpa using q1
    go_quiet (fail)
    go_wp2_with fail
    go_ret2
    exact ⟨by rw [HO.out, d1]; rfl, HF.out.1 _⟩
set_option maxHeartbeats 400000 in
theorem number_c (s : ByteArray) (b1 B off : Nat) (W : World) (cs : Array Value) (t : TypeId) (v : Value) (h1 : W.heap[b1]? = some (.cells #[.pointer (some ⟨B, off, none⟩)] 167 (0, 0)))
    (hB : W.heap[B]? = some (.cells cs t (0, 0))) (hv : cs[off]? = some v) (n1 : B ≠ b1) (hs : s.size ≤ maxLen) :
    Calls Tryz.prog 209 #[.string s, .pointer (some ⟨b1, 0, none⟩)] W fun e W' => e = .returned (.tuple #[.string (s.extract (dk 9 (bl s)) s.size), .bool (decide (0 < dk 9 (bl s)))]) ∧ W'.heap[B]? = some (.cells (cs.setIfInBounds off (.int .i64 (dvl ((bl s).take (dk 9 (bl s)))))) t (0, 0)) ∧ Fro (fun k => k = B) W W' := by
  have HM : Hid _ := And.intro (digits_p s 9 W hs (by omega)) trivial
  have c1 := cl1 h1
  obtain ⟨cB, fB⟩ := cl_at hB hv
  have hk := dk_le 9 (bl s)
  rw [bl_len] at hk
  generalize hV : dvl ((bl s).take (dk 9 (bl s))) = V at *
  generalize hK : dk 9 (bl s) = K at *
  clear hV hK
  obtain ⟨hk0, hk1, _⟩ := hk
  unfold maxLen at hs
  have HF : Hid _ := And.intro (bset (i := off) hB (.int .i64 V)) (fro_set W B off (.int .i64 V))
  have hkI : (K : Int) ≤ (s.size : Int) := by omega
  clear h1 hB hv
  go_enter Tryz.func209, Tryz.ntmps209
  go_wp2_with (first | (go_at_call 189; refine Calls.mono HM.out.1 ?_; rintro e w' ⟨rfl, rfl⟩))
  go_ret2
  exact ⟨rfl, HF.out⟩
/-- yearInto: what is left, whether it will do, the year. -/
def yrK (l : List Int) : List Int := if l.head? = some 45 then l.tail else l
def yrOk (l : List Int) : Bool := decide (4 ≤ dk 9 l) && decide (0 < dvl (l.take (dk 9 l))) && !(decide (4 < dk 9 l) && decide (l.head? = some 48))
def yrV (l : List Int) : Int := if l.head? = some 45 then - dvl ((yrK l).take (dk 9 (yrK l))) else dvl ((yrK l).take (dk 9 (yrK l)))
theorem head_get (s : ByteArray) (h : 0 < s.size) : (bl s).head? = some ((s[0]'h).toNat : Int) := by rw [bl_cons s h]; rfl
set_option maxHeartbeats 1000000 in
theorem year_c (s : ByteArray) (b1 B off : Nat) (W : World) (cs : Array Value) (t : TypeId) (v : Value) (h1 : W.heap[b1]? = some (.cells #[.pointer (some ⟨B, off, none⟩)] 167 (0, 0)))
    (hB : W.heap[B]? = some (.cells cs t (0, 0))) (hv : cs[off]? = some v) (n1 : B ≠ b1) (hs : s.size ≤ maxLen) :
    Calls Tryz.prog 188 #[.string s, .pointer (some ⟨b1, 0, none⟩)] W fun e W' => ∃ t' : ByteArray, e = .returned (.tuple #[.string t', .bool (yrOk (yrK (bl s)))]) ∧ bl t' = (yrK (bl s)).drop (dk 9 (yrK (bl s))) ∧ t'.size ≤ s.size ∧ W'.heap[B]? = some (.cells (cs.setIfInBounds off (.int .i64 (yrV (bl s)))) t (0, 0)) ∧ Fro (fun k => k = B) W W' := by
  have hm1 := cp_p s 45 W hs
  have e45 : ((45 : UInt8).toNat : Int) = 45 := rfl
  rw [e45] at hm1
  obtain ⟨r, hr⟩ : ∃ r, (if (bl s).head? = some 45 then s.extract 1 s.size else s) = r := ⟨_, rfl⟩
  have hbr : bl r = yrK (bl s) := by
    rw [← hr]
    unfold yrK
    by_cases h : (bl s).head? = some 45
    · rw [if_pos h, if_pos h, bl_ext, List.drop_one]
    · rw [if_neg h, if_neg h]
  have hrs : r.size ≤ s.size := by
    rw [← hr]
    split
    · rw [ByteArray.size_extract]; omega
    · omega
  rw [hr] at hm1
  clear hr
  have hm2 := digits_p r 9 W (by omega) (by omega)
  have hyv : yrV (bl s) = if (bl s).head? = some 45 then - dvl ((bl r).take (dk 9 (bl r))) else dvl ((bl r).take (dk 9 (bl r))) := by unfold yrV; rw [hbr]
  rw [← hbr]
  obtain ⟨neg, hneg⟩ : ∃ neg, decide ((bl s).head? = some 45) = neg := ⟨_, rfl⟩
  have hyv2 : yrV (bl s) = if neg = true then - dvl ((bl r).take (dk 9 (bl r))) else dvl ((bl r).take (dk 9 (bl r))) := by
    rw [hyv, ← hneg]
    simp
  rw [hneg] at hm1
  clear hyv hneg hbr
  have hk := dk_le 9 (bl r)
  rw [bl_len] at hk
  have hvb := dvl_bd (l := bl r) (j := dk 9 (bl r)) hk.2.2 (by omega)
  have hbt : ∀ K, bl (r.extract K r.size) = (bl r).drop K := fun K => bl_suf r K
  have hsz : ∀ K, (r.extract K r.size).size ≤ s.size := fun K => by rw [ByteArray.size_extract]; omega
  have hok : yrOk (bl r) = (decide (4 ≤ dk 9 (bl r)) && decide (0 < dvl ((bl r).take (dk 9 (bl r)))) && !(decide (4 < dk 9 (bl r)) && decide ((bl r).head? = some 48))) := rfl
  have h48 : ∀ h : 0 < r.size, decide ((bl r).head? = some 48) = decide (((r[0]'h).toNat : Int) = 48) := fun h => by rw [head_get r h]; simp
  generalize yrOk (bl r) = OKK at *
  generalize dvl ((bl r).take (dk 9 (bl r))) = V at *
  generalize hK : dk 9 (bl r) = K at *
  clear hK
  obtain ⟨hk0, hk1, _⟩ := hk
  obtain ⟨hv0, hv1⟩ := hvb
  have hb := hbt K
  have hz := hsz K
  clear hbt hsz
  generalize decide ((bl r).head? = some 48) = Z at *
  generalize (bl r).drop K = D at *
  have HZ : Hid _ := And.intro hb (And.intro hz (And.intro hok (And.intro hyv2 h48)))
  clear hb hz hok hyv2 h48
  generalize yrV (bl s) = YV at *
  have c1 := cl1 h1
  obtain ⟨cB, fB⟩ := cl_at hB hv
  have hfin : ∀ q, neg = false → (((W.setCell ⟨B, off, none⟩ (.int .i64 V)).drewN q).heap[B]? = some (.cells (cs.setIfInBounds off (.int .i64 YV)) t (0, 0))) ∧ Fro (fun k => k = B) W ((W.setCell ⟨B, off, none⟩ (.int .i64 V)).drewN q) := fun q hn => by
    have e : YV = V := by rw [HZ.out.2.2.2.1, hn]; rfl
    rw [e]
    exact ⟨bset hB _, (fro_set W B off _).drewN q⟩
  have hfin2 : ∀ q, neg = true → ((((W.setCell ⟨B, off, none⟩ (.int .i64 V)).setCell ⟨B, off, none⟩ (.int .i64 (-V))).drewN q).heap[B]? = some (.cells (cs.setIfInBounds off (.int .i64 YV)) t (0, 0))) ∧ Fro (fun k => k = B) W (((W.setCell ⟨B, off, none⟩ (.int .i64 V)).setCell ⟨B, off, none⟩ (.int .i64 (-V))).drewN q) := fun q hn => by
    have e : YV = -V := by rw [HZ.out.2.2.2.1, hn]; rfl
    rw [e]
    refine ⟨?_, (((Fro.refl (fun k => k = B) W).set (X := B) (i := off) (.inl rfl) _).set (X := B) (i := off) (.inl rfl) _).drewN q⟩
    have := bset (i := off) (bset (i := off) hB (.int .i64 V)) (.int .i64 (-V))
    have e2 := set_set cs off (.int .i64 V) (.int .i64 (-V))
    rw [e2] at this
    exact this
  have hg2 : (W.setCell ⟨B, off, none⟩ (.int .i64 V)).cell? ⟨b1, 0, none⟩ = some (.pointer (some ⟨B, off, none⟩)) := cl1 ((Below.heap_setCell _ _ _ _ (by simpa using n1.symm)).trans h1)
  have hg3 := bset (i := off) hB (.int .i64 V)
  obtain ⟨gB, hB3⟩ := cl_at (i := off) hg3 (set_get hv _)
  have HF : Hid _ := And.intro hfin (And.intro hfin2 (And.intro hg2 (And.intro gB hB3)))
  clear hfin hfin2 hg2 hg3 gB hB3 h1 hB hv
  have HM : Hid _ := And.intro hm1 hm2
  clear hm1 hm2
  unfold maxLen at hs
  have hkI : (K : Int) ≤ (r.size : Int) := by omega
  cases neg
  · go_enter Tryz.func188, Tryz.ntmps188
    go_wp2_with (first | (go_at_call 156; refine Calls.mono HM.out.1 ?_; rintro e w' ⟨rfl, rfl⟩) | (go_at_call 189; refine Calls.mono HM.out.2 ?_; rintro e w' ⟨rfl, rfl⟩))
    clear c1 cB fB HM
    by_cases q1 : 4 ≤ (K : Int)
    · have d1 : decide (4 ≤ K) = true := by simp; omega
      have hr0 : 0 < r.size := by omega
      have hz48 := HZ.out.2.2.2.2 hr0
      by_cases q2 : 0 < V
      · have d2 : decide (0 < V) = true := by simpa using q2
        by_cases q3 : 4 < (K : Int)
        · have d3 : decide (4 < K) = true := by simp; omega
          by_cases q4 : ((r[0]'hr0).toNat : Int) = 48
          · have d4 : Z = true := by rw [hz48]; simpa using q4
            clear hz48
            have hO : OKK = false := by rw [HZ.out.2.2.1, d1, d2, d3, d4]; rfl
            subst hO
            go_quiet (fail)
            go_wp2_with fail
            go_ret2
            exact ⟨r.extract K r.size, rfl, HZ.out.1, HZ.out.2.1, HF.out.1 _ (by first | rfl | trivial)⟩
          · have d4 : Z = false := by rw [hz48]; simpa using q4
            have d4' : (((r[0]'hr0).toNat : Int) == 48) = false := by simpa using q4
            clear hz48
            have hO : OKK = true := by rw [HZ.out.2.2.1, d1, d2, d3, d4]; rfl
            subst hO
            go_quiet (fail)
            go_wp2_with fail
            go_ret2
            exact ⟨r.extract K r.size, rfl, HZ.out.1, HZ.out.2.1, HF.out.1 _ (by first | rfl | trivial)⟩
        · have d3 : decide (4 < K) = false := by simp; omega
          have d3' : decide (4 < (K : Int)) = false := by simpa using q3
          clear hz48
          have hO : OKK = true := by rw [HZ.out.2.2.1, d1, d2, d3]; rfl
          subst hO
          go_quiet (fail)
          go_wp2_with fail
          go_ret2
          exact ⟨r.extract K r.size, rfl, HZ.out.1, HZ.out.2.1, HF.out.1 _ (by first | rfl | trivial)⟩
      · have d2 : decide (0 < V) = false := by simpa using q2
        clear hz48
        have hO : OKK = false := by rw [HZ.out.2.2.1, d1, d2]; rfl
        subst hO
        go_quiet (fail)
        go_wp2_with fail
        go_ret2
        exact ⟨r.extract K r.size, rfl, HZ.out.1, HZ.out.2.1, HF.out.1 _ (by first | rfl | trivial)⟩
    · have d1 : decide (4 ≤ K) = false := by simp; omega
      have d1' : decide (4 ≤ (K : Int)) = false := by simpa using q1
      have hO : OKK = false := by rw [HZ.out.2.2.1, d1]; rfl
      subst hO
      go_quiet (fail)
      go_wp2_with fail
      go_ret2
      exact ⟨r.extract K r.size, rfl, HZ.out.1, HZ.out.2.1, HF.out.1 _ (by first | rfl | trivial)⟩
  · obtain ⟨k1, k2, k3⟩ := HF.out.2.2
    go_enter Tryz.func188, Tryz.ntmps188
    go_wp2_with (first | (go_at_call 156; refine Calls.mono HM.out.1 ?_; rintro e w' ⟨rfl, rfl⟩) | (go_at_call 189; refine Calls.mono HM.out.2 ?_; rintro e w' ⟨rfl, rfl⟩))
    clear c1 cB fB HM k1 k2 k3
    by_cases q1 : 4 ≤ (K : Int)
    · have d1 : decide (4 ≤ K) = true := by simp; omega
      have hr0 : 0 < r.size := by omega
      have hz48 := HZ.out.2.2.2.2 hr0
      by_cases q2 : 0 < V
      · have d2 : decide (0 < V) = true := by simpa using q2
        by_cases q3 : 4 < (K : Int)
        · have d3 : decide (4 < K) = true := by simp; omega
          by_cases q4 : ((r[0]'hr0).toNat : Int) = 48
          · have d4 : Z = true := by rw [hz48]; simpa using q4
            clear hz48
            have hO : OKK = false := by rw [HZ.out.2.2.1, d1, d2, d3, d4]; rfl
            subst hO
            go_quiet (fail)
            go_wp2_with fail
            go_ret2
            exact ⟨r.extract K r.size, rfl, HZ.out.1, HZ.out.2.1, HF.out.2.1 _ (by first | rfl | trivial)⟩
          · have d4 : Z = false := by rw [hz48]; simpa using q4
            have d4' : (((r[0]'hr0).toNat : Int) == 48) = false := by simpa using q4
            clear hz48
            have hO : OKK = true := by rw [HZ.out.2.2.1, d1, d2, d3, d4]; rfl
            subst hO
            go_quiet (fail)
            go_wp2_with fail
            go_ret2
            exact ⟨r.extract K r.size, rfl, HZ.out.1, HZ.out.2.1, HF.out.2.1 _ (by first | rfl | trivial)⟩
        · have d3 : decide (4 < K) = false := by simp; omega
          have d3' : decide (4 < (K : Int)) = false := by simpa using q3
          clear hz48
          have hO : OKK = true := by rw [HZ.out.2.2.1, d1, d2, d3]; rfl
          subst hO
          go_quiet (fail)
          go_wp2_with fail
          go_ret2
          exact ⟨r.extract K r.size, rfl, HZ.out.1, HZ.out.2.1, HF.out.2.1 _ (by first | rfl | trivial)⟩
      · have d2 : decide (0 < V) = false := by simpa using q2
        clear hz48
        have hO : OKK = false := by rw [HZ.out.2.2.1, d1, d2]; rfl
        subst hO
        go_quiet (fail)
        go_wp2_with fail
        go_ret2
        exact ⟨r.extract K r.size, rfl, HZ.out.1, HZ.out.2.1, HF.out.2.1 _ (by first | rfl | trivial)⟩
    · have d1 : decide (4 ≤ K) = false := by simp; omega
      have d1' : decide (4 ≤ (K : Int)) = false := by simpa using q1
      have hO : OKK = false := by rw [HZ.out.2.2.1, d1]; rfl
      subst hO
      go_quiet (fail)
      go_wp2_with fail
      go_ret2
      exact ⟨r.extract K r.size, rfl, HZ.out.1, HZ.out.2.1, HF.out.2.1 _ (by first | rfl | trivial)⟩
end Go.Proofs.YtgaegajcejpmdaaGreatDoor.Dt
