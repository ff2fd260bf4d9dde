/- Acts that came in, opened. -/
import Derived.Test.YtgidbmiahckleaaFew
import Derived.Deep.Slices
import Derived.Deep.Strs
import Derived.Lib.SmallJoins
import Derived.SizedLaws
import Derived.ProofKit
import Derived.OpenShut
import Derived.ShutString
import Derived.ChangeOld
namespace Go.Proofs.Ytgidbmiahckleaa
open Go.RowKit
set_option linter.unusedVariables false

theorem ex_list {α : Type} (Q : Nat → α → Prop) : ∀ n, (∀ i, i < n → ∃ x, Q i x) → ∃ l : List α, l.length = n ∧ ∀ i (hi : i < l.length), Q i (l[i]'hi)
  | 0, _ => ⟨[], rfl, fun i hi => by simp at hi⟩
  | n + 1, h => by
    obtain ⟨l, h1, h2⟩ := ex_list Q n (fun i hi => h i (by omega))
    obtain ⟨x, hx⟩ := h n (by omega)
    refine ⟨l ++ [x], by simp [h1], fun i hi => ?_⟩
    by_cases hin : i < l.length
    · rw [List.getElem_append_left hin]; exact h2 i hin
    · have e : i = l.length := by simp at hi; omega
      rw [List.getElem_append_right (by omega)]
      subst h1
      subst e
      simpa using hx
theorem cel33 : Try.prog.cellsOf 33 = 4 := by kernel_rfl
theorem cel72 : Try.prog.cellsOf 72 = 3 := by kernel_rfl
theorem cel9 : Try.prog.cellsOf 9 = 1 := by kernel_rfl
theorem cel3 : Try.prog.cellsOf 3 = 1 := by kernel_rfl
theorem cel31 : Try.prog.cellsOf 31 = 1 := by kernel_rfl
theorem reach_eq : reachBytes ≤ 140737488355328 := by decide
section
variable {H : Type} {enc : TypeId × Value → H} {W : World} {sp : Nat → Bool} {held : Bool}
set_option maxRecDepth 100000 in
theorem at_of {n : Nat} {cs : List Value} {y : DataW H × List MemPlace} (h : DataW.trod enc Try.prog W 0 sp held n 72 cs = some y) :
    ∃ nm v pl, cs = [.string nm, .string v, .int .i64 pl] ∧ y.1 = .agg [.lit (.string nm.data.toList), .lit (.string v.data.toList), .lit (.int .i64 pl)] ∧ nm.size ≤ maxLen := by
  obtain ⟨y0, y1, y2, m, rfl, hl, h0, h1, h2⟩ := Deep.trod_struct3 Try.underlying72 h
  rw [cel72] at hl
  match cs, hl with
  | [c0, c1, c2], _ =>
    dsimp only at h0 h1 h2
    simp only [cel9, cel3, List.drop_zero, List.drop_succ_cons, List.take_succ_cons, List.take_zero] at h0 h1 h2
    obtain ⟨s0, e0, rfl, z0⟩ := DataW.trod_string Try.underlying9 h0
    obtain ⟨s1, e1, rfl, z1⟩ := DataW.trod_string Try.underlying9 h1
    obtain ⟨k, e2, rfl, _⟩ := DataW.trod_int Try.underlying3 h2
    simp at e0 e1 e2
    subst e0 e1 e2
    exact ⟨s0, s1, k, rfl, rfl, z0⟩
theorem wall_mem {P : Program} {e : TypeId} : ∀ {l : List (DataW H)} {d : DataW H}, d ∈ l → ∀ x ∈ d.weights P e, x ∈ DataW.weightsAll P e l
  | [], d, h, x, hx => by simp at h
  | a :: l, d, h, x, hx => by
    rw [DataW.weightsAll, List.mem_append]
    rw [List.mem_cons] at h
    rcases h with rfl | h
    · exact .inl hx
    · exact .inr (wall_mem h x hx)
set_option maxRecDepth 100000 in
set_option maxHeartbeats 1000000 in
theorem ats_of {n : Nat} {c : Value} {y : DataW H × List MemPlace} (h : DataW.trod enc Try.prog W 0 sp held n 31 [c] = some y) (hw : ∀ x ∈ y.1.weights Try.prog 31, x ≤ reachBytes) :
    ∃ a ats cap, c = .slice a ats.length cap ∧ AtO W a ats ∧ (a = none → cap = 0) ∧ ats.length ≤ 140737488355328 ∧ ∀ x ∈ ats, x.1.size ≤ 140737488355328 ∧ x.2.1.size ≤ 140737488355328 := by
  rcases Deep.open_slice Try.underlying31 h with ⟨hc, _⟩ | ⟨a, len, cap, m, n', D, Pl, hc, _, hlc, hcm, hm, rfl, hel⟩
  · simp at hc
    subst hc
    exact ⟨none, [], 0, rfl, .inl rfl, fun _ => rfl, by simp, by simp⟩
  · simp at hc
    subst hc
    have hlm : len ≤ m := by rw [hm]; split <;> omega
    rw [cel72] at hel
    dsimp only at hw
    unfold DataW.weights at hw
    rw [Try.underlying31] at hw
    dsimp only at hw
    have hb : Try.prog.bytesOf 72 = 40 := by kernel_rfl
    have hwl := hw ((((List.range len).map D).length + ((List.range (m - len)).map fun j => D (len + j)).length) * Try.prog.bytesOf 72) (by simp)
    rw [hb] at hwl
    simp at hwl
    have hr := reach_eq
    obtain ⟨ats, hal, hat⟩ := ex_list (fun i (x : ByteArray × ByteArray × Int) => (∀ v, [Value.string x.1, .string x.2.1, .int .i64 x.2.2][0]? = some v → W.cell? (a.add (i * 3)) = some v) ∧ (W.cell? ((a.add (i * 3)).add 0) = some (.string x.1)) ∧ (W.cell? ((a.add (i * 3)).add 1) = some (.string x.2.1)) ∧ (W.cell? ((a.add (i * 3)).add 2) = some (.int .i64 x.2.2)) ∧ x.1.size ≤ maxLen ∧ x.1.size ≤ 140737488355328 ∧ x.2.1.size ≤ 140737488355328) len (fun i hi => by
      obtain ⟨cs', hcs, htr⟩ := hel i (by omega)
      obtain ⟨_, hlen, hget⟩ := World.cells?_some hcs
      obtain ⟨nm, v, pl, rfl, hD, hz⟩ := at_of htr
      have hDi : ∀ x ∈ (D i).weights Try.prog 72, x ≤ reachBytes := fun x hx => hw x (by
        rw [List.mem_cons, List.mem_append]
        exact .inr (.inl (wall_mem (List.mem_map_of_mem (List.mem_range.2 hi)) x hx)))
      have hD' : D i = .agg [.lit (.string nm.data.toList), .lit (.string v.data.toList), .lit (.int .i64 pl)] := hD
      rw [hD'] at hDi
      unfold DataW.weights at hDi
      rw [Try.underlying72] at hDi
      simp [DataW.weightsEach, DataW.weights] at hDi
      have g0 := hget 0 (by omega)
      refine ⟨(nm, v, pl), fun u hu => ?_, g0, hget 1 (by omega), hget 2 (by omega), hz, ?_, ?_⟩
      · simp at hu
        rw [← hu]
        have e0 : (a.add (i * 3)).add 0 = a.add (i * 3) := by rw [Deep.add_add]; rfl
        rw [e0] at g0
        exact g0
      · have := hDi.1
        show nm.size ≤ _
        have e : nm.size = nm.data.size := rfl
        omega
      · have := hDi.2
        show v.size ≤ _
        have e : v.size = v.data.size := rfl
        omega)
    refine ⟨some a, ats, cap, by rw [hal], ?_, fun q => by simp at q, by omega, fun x hx => ?_⟩
    · by_cases h0 : ats = []
      · exact .inl h0
      · have hpos : 0 < ats.length := List.length_pos_iff.2 h0
        have hs := World.cell?_spot (hat 0 hpos).2.1
        obtain ⟨b, o, spot⟩ := a
        have hspot : spot = none := by simpa [Addr.add] using hs
        subst hspot
        have hadd : ∀ o i, (⟨b, o, none⟩ : Addr).add i = ⟨b, o + i, none⟩ := fun o i => by
          by_cases h : i = 0 <;> simp [Addr.add, h]
        refine .inr ⟨b, o, rfl, ?_, by rw [hal]; omega, fun i hi => ?_⟩
        · have := World.block_lt_of_cell? W _ (hat 0 hpos).2.1
          rw [hadd, hadd] at this
          exact this
        · obtain ⟨_, k0, k1, k2, k3, _⟩ := hat i hi
          rw [hadd, hadd] at k0 k1 k2
          exact ⟨k0, k1, k2, k3⟩
    · obtain ⟨i, hi, rfl⟩ := List.mem_iff_getElem.1 hx
      exact (hat i hi).2.2.2.2.2
set_option maxRecDepth 100000 in
theorem act_of {n : Nat} {cs : List Value} {y : DataW H × List MemPlace} (h : DataW.trod enc Try.prog W 0 sp held n 33 cs = some y) (hw : ∀ x ∈ y.1.weights Try.prog 33, x ≤ reachBytes) :
    ∃ d : AD, cs = [.int .i64 d.op, .string d.nm, .slice d.a d.ats.length d.cap, .string d.ask] ∧ ActOk W d := by
  obtain ⟨y0, y1, y2, y3, m, rfl, hl, h0, h1, h2, h3⟩ := Joins.trod_struct4 Try.underlying33 h
  rw [cel33] at hl
  match cs, hl with
  | [c0, c1, c2, c3], _ =>
    dsimp only at h0 h1 h2 h3 hw
    simp only [cel9, cel3, cel31, List.drop_zero, List.drop_succ_cons, List.take_succ_cons, List.take_zero] at h0 h1 h2 h3
    unfold DataW.weights at hw
    rw [Try.underlying33] at hw
    dsimp only at hw
    have hw2 : ∀ x ∈ y2.1.weights Try.prog 31, x ≤ reachBytes := fun x hx => hw x (by simp [DataW.weightsEach]; exact .inr (.inr (.inl hx)))
    have hw1 : ∀ x ∈ y1.1.weights Try.prog 9, x ≤ reachBytes := fun x hx => hw x (by simp [DataW.weightsEach]; exact .inr (.inl hx))
    have hw3 : ∀ x ∈ y3.1.weights Try.prog 9, x ≤ reachBytes := fun x hx => hw x (by simp [DataW.weightsEach]; exact .inr (.inr (.inr hx)))
    obtain ⟨k, e0, rfl, _⟩ := DataW.trod_int Try.underlying3 h0
    obtain ⟨s1, e1, rfl, _⟩ := DataW.trod_string Try.underlying9 h1
    obtain ⟨s3, e3, rfl, _⟩ := DataW.trod_string Try.underlying9 h3
    obtain ⟨a, ats, cap, rfl, q1, q2, q3, q4⟩ := ats_of h2 hw2
    simp at e0 e1 e3
    subst e0 e1 e3
    have hr := reach_eq
    have z1 := hw1 s1.data.toList.length (by simp [DataW.weights])
    have z3 := hw3 s3.data.toList.length (by simp [DataW.weights])
    rw [Array.length_toList] at z1 z3
    exact ⟨⟨k, s1, a, cap, ats, s3⟩, rfl, ⟨by show s1.data.size ≤ _; omega, by show s3.data.size ≤ _; omega, q3, q1, q2, q4⟩⟩
set_option maxRecDepth 100000 in
set_option maxHeartbeats 1000000 in
theorem acts_of {n : Nat} {c : Value} {y : DataW H × List MemPlace} (h : DataW.trod enc Try.prog W 0 sp held n 22 [c] = some y) (hw : ∀ x ∈ y.1.weights Try.prog 22, x ≤ reachBytes) :
    ∃ a l cap, c = .slice a (l : List AD).length cap ∧ ActO W a l := by
  rcases Deep.open_slice Try.underlying22 h with ⟨hc, _⟩ | ⟨a, len, cap, m, n', D, Pl, hc, _, hlc, hcm, hm, rfl, hel⟩
  · simp at hc
    subst hc
    exact ⟨none, [], 0, rfl, .inl rfl⟩
  · simp at hc
    subst hc
    have hlm : len ≤ m := by rw [hm]; split <;> omega
    rw [cel33] at hel
    dsimp only at hw
    unfold DataW.weights at hw
    rw [Try.underlying22] at hw
    dsimp only at hw
    obtain ⟨l, hal, hat⟩ := ex_list (fun i (d : AD) => (W.cell? ((a.add (i * 4)).add 0) = some (.int .i64 d.op)) ∧ (W.cell? ((a.add (i * 4)).add 1) = some (.string d.nm)) ∧ (W.cell? ((a.add (i * 4)).add 2) = some (.slice d.a d.ats.length d.cap)) ∧ (W.cell? ((a.add (i * 4)).add 3) = some (.string d.ask)) ∧ ActOk W d) len (fun i hi => by
      obtain ⟨cs', hcs, htr⟩ := hel i (by omega)
      obtain ⟨_, hlen, hget⟩ := World.cells?_some hcs
      obtain ⟨d, rfl, hok⟩ := act_of htr (fun x hx => hw x (by
        rw [List.mem_cons, List.mem_append]
        exact .inr (.inl (wall_mem (List.mem_map_of_mem (List.mem_range.2 hi)) x hx))))
      exact ⟨d, hget 0 (by omega), hget 1 (by omega), hget 2 (by omega), hget 3 (by omega), hok⟩)
    refine ⟨some a, l, cap, by rw [hal], ?_⟩
    by_cases h0 : l = []
    · exact .inl h0
    · have hpos : 0 < l.length := List.length_pos_iff.2 h0
      have hs := World.cell?_spot (hat 0 hpos).1
      obtain ⟨b, o, spot⟩ := a
      have hspot : spot = none := by simpa [Addr.add] using hs
      subst hspot
      have hadd : ∀ o i, (⟨b, o, none⟩ : Addr).add i = ⟨b, o + i, none⟩ := fun o i => by
        by_cases h : i = 0 <;> simp [Addr.add, h]
      refine .inr ⟨b, o, rfl, ?_, by rw [hal]; omega, fun i hi => ?_⟩
      · have := World.block_lt_of_cell? W _ (hat 0 hpos).1
        rw [hadd, hadd] at this
        exact this
      · obtain ⟨k0, k1, k2, k3, k4⟩ := hat i hi
        rw [hadd, hadd] at k0 k1 k2 k3
        exact ⟨k0, k1, k2, k3, k4⟩
end
end Go.Proofs.Ytgidbmiahckleaa
