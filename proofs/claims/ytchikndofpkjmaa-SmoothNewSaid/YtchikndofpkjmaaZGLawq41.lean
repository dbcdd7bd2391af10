/- Texts of these claims, one after the other. -/
import Derived.Test.YtchikndofpkjmaaRows
import Derived.Test.YtchikndofpkjmaaZGBaseq20
import Derived.Test.YtchikndofpkjmaaZGLawq39
import Derived.Test.YtchikndofpkjmaaZWMathq3
namespace Go.Proofs.Ytchikndofpkjmaa
open Go.RowKit

theorem item_info : (Try.prog.info? 51).map (fun i => (i.zero, i.size, i.bytes)) = some (some (.agg #[.int .i64 0, .int .i64 0]), 2, 16) := by kernel_rfl
theorem Own.sl {w0 w : World} {v : Value} {n : Nat} {L : List It} (h : Own w0 w v n L) : ∃ A c, v = .slice A n c ∧ n ≤ c ∧ Sl w A n L := by
  have hn : L.length = n := by have := h.1; rw [fl_length] at this; omega
  rcases h.2 with ⟨rfl, rfl⟩ | ⟨g, cap, cur, rfl, _, hh, hc, _, hs, ht⟩
  · exact ⟨none, 0, rfl, Nat.le_refl _, hn, fun hx => absurd hx (by omega)⟩
  · refine ⟨some ⟨g, 0, none⟩, cap, rfl, hc, hn, fun _ => ⟨g, 0, rfl, fun j u hj => ?_⟩⟩
    rw [Nat.zero_add, cell_of_row w g j cur _ (0, 0) hh]
    rw [← ht, List.getElem?_take] at hj
    split at hj
    · simpa using hj
    · cases hj
theorem append_run (ty : TypeId) (w0 w : World) (v : Value) (n : Nat) (L : List It) (hO : Own w0 w v n L) (hu : Up w0 w) (A : Option Addr) (m c : Nat) (M : List It) (hS : Sl w A m M) (hlen : n + m ≤ 1000000) :
    ∃ v' w', (Builtin.append_ #[45, 45] ty #[v, .slice A m c]).run Try.prog w = .ok v' w' ∧ Own w0 w' v' (n + m) (L ++ M) ∧ Up w0 w' := by
  obtain ⟨i, hi, hz, hs, hb⟩ := info_parts item_info
  have ht := Try.underlying45
  have h63 : n + m ≤ maxLen := by simp only [maxLen]; omega
  have hm : M.length = m := hS.1
  have hbase := hu.size
  have hfl : (fl L ++ fl M).length = (n + m) * 2 := by rw [List.length_append, hO.1, fl_length, hm]; omega
  unfold Own
  rw [fl_append]
  by_cases h0 : m = 0
  · subst h0
    have hM : M = [] := List.eq_nil_of_length_eq_zero hm
    subst hM
    refine ⟨v, w, ?_, by have := hO; unfold Own at this; simpa [fl] using this, hu⟩
    have hl : ∀ (x : Addr), (loadCells x 0).run Try.prog w = .ok #[] w := fun x => by simpa using run_loadCells_list (P := Try.prog) w x [] (by simp)
    rcases hO.2 with ⟨rfl, rfl⟩ | ⟨g, cap, cur, rfl, _, hh, hnc, _⟩
    · cases A <;> simp [Builtin.append_, run_underlying ht, sizeOf, typeInfo, hi, Builtin.lenOf, Builtin.firstCells, hl]
    · cases A <;> simp [Builtin.append_, run_underlying ht, sizeOf, typeInfo, hi, Builtin.lenOf, Builtin.firstCells, hnc, storeCells, hl]
  · obtain ⟨b, o, rfl, hc⟩ := hS.2 (by omega)
    have hnews : ∀ j u, (fl M)[j]? = some u → w.cell? ((⟨b, o, none⟩ : Addr).add j) = some u := fun j u hj => by rw [add_at]; exact hc j u hj
    have hl : (fl M).length = m * i.size := by rw [fl_length, hm, hs]
    have grown : ∀ (old : Nat), old < n + m →
      (w.drew.alloc (.cells ((fl L).toArray ++ (fl M).toArray ++ Builtin.zeroCells #[.int .i64 0, .int .i64 0] (grownCap w (n + m) old 51 - (n + m))) 51)).ownsRow w0.heap.size 51 2
        (.slice (some ⟨w.heap.size, 0, none⟩) (n + m) (grownCap w (n + m) old 51)) (n + m) (fl L ++ fl M) := by
      intro old ho
      have hge := grownCap_ge w (n + m) old 51
      have hcm : grownCap w (n + m) old 51 ≤ maxLen := grownCap_le_maxLen w (n + m) old _ h63
      refine ⟨hfl, .inr ⟨w.heap.size, _, _, rfl, hbase, heap_alloc_new w.drew _, hge, hcm, ?_, ?_⟩⟩
      · simp only [Array.size_append, List.size_toArray, size_zeroCells, hO.1, hl, hs]
        simp only [List.length_cons, List.length_nil]
        omega
      · simp only [Array.toList_append, List.append_assoc]
        rw [← List.append_assoc, ← hfl]
        exact List.take_left
    rcases hO.2 with ⟨rfl, rfl⟩ | ⟨g, cap, cur, rfl, hbg, hg, hnc, hcm, hcs, htake⟩
    · have hx : fl L = [] := List.eq_nil_of_length_eq_zero (by simpa using hO.1)
      have hr := run_append_nil (P := Try.prog) w 45 ty 51 i _ ht hi hz ⟨b, o, none⟩ m c (fl M) hl hnews (by omega) (by omega) (by rw [hb]; omega)
      have hgr := grown 0 (by omega)
      rw [hx] at hgr ⊢
      simp only [Nat.zero_add, List.nil_append, Array.empty_append] at hgr ⊢
      exact ⟨_, _, hr, hgr, hu.drew.alloc _ _⟩
    · by_cases hroom : n + m ≤ cap
      · have hfit : n * i.size + (fl M).length ≤ cur.size := by rw [hl, hcs, hs, ← Nat.add_mul]; exact Nat.mul_le_mul_right _ hroom
        have hr := run_append_room (P := Try.prog) w 45 ty 51 i ht hi g n cap cur hg ⟨b, o, none⟩ m c (fl M) hl hnews (fl_one _) hroom hfit
        obtain ⟨h1, h2⟩ := Cp.set w g cur (cur.toList.take (n * i.size) ++ fl M ++ cur.toList.drop (n * i.size + (fl M).length)).toArray _ hg
        refine ⟨_, _, hr, ⟨hfl, .inr ⟨g, cap, _, rfl, hbg, h2, hroom, hcm, ?_, ?_⟩⟩, h1.up w0 hu hbg⟩
        · simp only [List.size_toArray, List.length_append, List.length_take, List.length_drop, Array.length_toList]
          omega
        · rw [hs, htake, ← hfl]
          exact List.take_left
      · have holds : ∀ j u, (fl L)[j]? = some u → w.cell? ((⟨g, 0, none⟩ : Addr).add j) = some u := World.ownsRow.cells (g := g) hO rfl
        have hr := run_append_grow (P := Try.prog) w 45 ty 51 i _ ht hi hz ⟨g, 0, none⟩ n cap (fl L) (by rw [hs]; exact hO.1) holds ⟨b, o, none⟩ m c (fl M) hl hnews (by omega) (by omega) (growslice_fits (by omega) (by rw [hb]; omega))
        exact ⟨_, _, hr, grown cap (by omega), hu.drew.alloc _ _⟩

theorem one_new (w : World) (p0 p1 : Int) : Sl (w.alloc (.cells #[.int .i64 p0, .int .i64 p1] 51)) (some ⟨w.heap.size, 0, none⟩) 1 [(p0, p1)] :=
  Bi.sl (L := [(p0, p1)]) (Blk.new w _ _) rfl

section
variable {w w1 w2 : World} {p g : Nat}
end

section
variable {w w' : World} {p g c h l : Nat} {L : List It}
end
end Go.Proofs.Ytchikndofpkjmaa

namespace Go.Proofs.Ytchikndofpkjmaa

theorem mrkA_push (I : List It) (t v : Int) {p : Nat} (h : p < I.length) : mrkA (I ++ [(t, v)]) p = incM v (mrkA I p) := by
  have e0 : (I ++ [(t, v)]).getD p (0, 0) = I.getD p (0, 0) := by
    rw [List.getD_eq_getElem?_getD, List.getD_eq_getElem?_getD, List.getElem?_append_left h]
  unfold mrkA incM
  rw [vlF_push I t v (by omega), e0, List.length_append, suL_app, sqL_app, mnL_push v (vlF_ne h), mxL_push v (vlF_ne h)]
  simp [suL, sqL]
theorem mrkA_new (I : List It) (t v : Int) : mrkA (I ++ [(t, v)]) I.length = oneM ((I.length : Int) + 1) t v := by
  have e0 : (I ++ [(t, v)]).getD I.length (0, 0) = (t, v) := by
    rw [List.getD_eq_getElem?_getD, List.getElem?_append_right (Nat.le_refl _)]; simp
  have e1 : vlF (I ++ [(t, v)]) I.length = [v] := by
    rw [vlF_push I t v (Nat.le_refl _)]; unfold vlF; rw [List.drop_length]; rfl
  unfold mrkA oneM
  rw [e0, e1]
  simp [suL, sqL, mnL, mxL]
theorem ofZ_mrkA {g : Int} {I : List It} (hg : 1 ≤ g ∧ g ≤ 4) (h : ∀ x ∈ I, valG g x.2) {p : Nat} (hp : p < I.length) : ofZ g (mrkA I p) = agP g I p := by
  have : g = 1 ∨ g = 2 ∨ g = 3 ∨ g = 4 := by omega
  rcases this with rfl | rfl | rfl | rfl
  · rfl
  · rfl
  · rfl
  · have h1 := vlF_val h p _ (mnL_mem (vlF_ne hp))
    have h2 := vlF_val h p _ (mxL_mem (vlF_ne hp))
    have h3 := h1.1; have h4 := h1.2.1; have h5 := h2.1; have h6 := h2.2.1
    have e : fit64 (mxL (vlF I p) - mnL (vlF I p)) = true := decide_eq_true (by omega)
    show (if fit64 (mxL (vlF I p) - mnL (vlF I p)) = true then mxL (vlF I p) - mnL (vlF I p) else 0) = _
    rw [if_pos e]; rfl
end Go.Proofs.Ytchikndofpkjmaa

namespace Go.Proofs.Ytchikndofpkjmaa

theorem SnM.start {nr : List It → Nat → Nat → Prop} {cl : List It → Nat → Nat → Bool} {g w c now : Int} (hg : 1 ≤ g ∧ g ≤ 4) (hw : 1 ≤ w) (hc : 1 ≤ c) : SnM nr cl g w c now [] [] :=
  ⟨hg, hw, hc, List.Pairwise.nil, (fun p hp => (by cases hp)), (fun p hp => (by cases hp)), (fun _ i hi => absurd hi (Nat.not_lt_zero _)), (fun p hp => (by cases hp)), (fun p hp => (by cases hp)), (fun p hp => (by cases hp)), trivial, trivial, List.Pairwise.nil, (fun x hx => (by cases hx)), (fun x hx => (by cases hx)), (fun p hp => (by cases hp))⟩
/-- What becomes of the marks by a tick. -/
theorem dr_facts {f : Int} {I : List It} (ha : I.Pairwise (fun x y => x.1 ≤ y.1)) : ∀ {P : List Nat}, P.Pairwise (fun a b => a < b) → (∀ p ∈ P, p < I.length) → (∀ p, P.getLast? = some p → p + 1 = I.length) → (P = [] → ∀ i, i < I.length → (I.getD i (0, 0)).1 ≤ f) → (∀ p, P.head? = some p → ∀ i, i < p → (I.getD i (0, 0)).1 ≤ f) →
    (drL (fun p => decide (f < (I.getD p (0, 0)).1)) P = [] → ∀ i, i < I.length → (I.getD i (0, 0)).1 ≤ f) ∧ (∀ p, (drL (fun p => decide (f < (I.getD p (0, 0)).1)) P).head? = some p → ∀ i, i < p → (I.getD i (0, 0)).1 ≤ f) ∧ (∀ p ∈ (drL (fun p => decide (f < (I.getD p (0, 0)).1)) P).tail, f < (I.getD p (0, 0)).1) ∧ (∀ p, drL (fun p => decide (f < (I.getD p (0, 0)).1)) P = [p] → f < (I.getD p (0, 0)).1) ∧ (∀ p, (drL (fun p => decide (f < (I.getD p (0, 0)).1)) P).head? = some p → ∀ q, P.head? = some q → q ≤ p) := by
  intro P
  induction P with
  | nil => intro _ _ _ hn _; exact ⟨fun _ => hn rfl, fun p hp => (by cases hp), fun p hp => (by cases hp), fun p hp => (by cases hp), fun p hp => (by cases hp)⟩
  | cons a R ih =>
    intro hu hl hla hn ho
    cases R with
    | nil =>
      simp only [drL]
      by_cases h : f < (I.getD a (0, 0)).1
      · rw [if_pos (decide_eq_true h)]
        refine ⟨fun e => (by cases e), ho, fun p hp => (by cases hp), fun p hp => ?_, fun p hp q hq => ?_⟩
        · injection hp with e; subst e; exact h
        · injection hp with e; injection hq with e2; omega
      · rw [if_neg (by simpa using h)]
        refine ⟨fun _ i hi => ?_, fun p hp => (by cases hp), fun p hp => (by cases hp), fun p hp => (by cases hp), fun p hp => (by cases hp)⟩
        have h1 := hla a rfl
        have := asc_le ha (show i ≤ a by omega) (by omega)
        omega
    | cons b R =>
      simp only [drL]
      have hb : b < I.length := hl b (by simp)
      by_cases h : f < (I.getD b (0, 0)).1
      · rw [if_pos (decide_eq_true h)]
        refine ⟨fun e => (by cases e), ho, fun p hp => ?_, fun p hp => (by cases hp), fun p hp q hq => ?_⟩
        · have h2 : b ≤ p := by
            rcases List.mem_cons.1 hp with e | e
            · omega
            · have := (List.pairwise_cons.1 (List.pairwise_cons.1 hu).2).1 p e; omega
          have := asc_le ha h2 (hl p (List.mem_cons_of_mem _ hp))
          omega
        · injection hp with e; injection hq with e2; omega
      · rw [if_neg (by simpa using h)]
        obtain ⟨i1, i2, i3, i4, i5⟩ := ih (List.pairwise_cons.1 hu).2 (fun p hp => hl p (List.mem_cons_of_mem _ hp)) (fun p hp => hla p (by rw [List.getLast?_cons_cons]; exact hp)) (fun e => (by cases e)) (fun p hp i hi => by
          injection hp with e
          subst e
          have := asc_le ha (Nat.le_of_lt hi) hb
          omega)
        refine ⟨i1, i2, i3, i4, fun p hp q hq => ?_⟩
        have h2 := i5 p hp b rfl
        injection hq with e
        subst e
        have := (List.pairwise_cons.1 hu).1 b List.mem_cons_self
        omega
theorem SnM.adv {nr : List It → Nat → Nat → Prop} {cl : List It → Nat → Nat → Bool} {g w c now td : Int} {P : List Nat} {I : List It} (h : SnM nr cl g w c now P I) (h1 : now ≤ td) : SnM nr cl g w c td (drL (fun p => decide (td - w < (I.getD p (0, 0)).1)) P) I := by
  obtain ⟨i1, i2, i3, i4, i5⟩ := dr_facts (f := td - w) h.asc h.up h.lt h.last (fun e i hi => by have := h.none_ e i hi; omega) (fun p hp i hi => by have := h.old p hp i hi; omega)
  obtain ⟨Q, e⟩ := drL_suffix (fun p => decide (td - w < (I.getD p (0, 0)).1)) P
  generalize drL (fun p => decide (td - w < (I.getD p (0, 0)).1)) P = D at *
  subst e
  refine ⟨h.g1, h.w1, h.c1, (List.pairwise_append.1 h.up).2.1, fun p hp => h.lt p (List.mem_append_right _ hp), fun p hp => h.last p ?_, i1, i2, i3, i4, h.c6.suffix, h.c5.suffix, h.asc, fun x hx => ⟨(h.rg x hx).1, by have := (h.rg x hx).2; omega⟩, h.vals, fun p hp => ?_⟩
  · rw [List.getLast?_append, hp]; rfl
  · cases hh : (Q ++ D).head? with
    | none =>
      rw [List.head?_eq_none_iff] at hh
      have : D = [] := (List.append_eq_nil_iff.1 hh).2
      subst this; cases hp
    | some q =>
      have := i5 p hp q hh
      have := h.cap q hh
      omega
theorem Sv.far {g w k c now : Int} {P : List Nat} {I : List It} (h : Sv g w k c now P I) : ch3 (fun a b => (k + 1) * agP g I b < k * agP g I a) P := ch3.imp (fun a _ b _ hab => by have := of_decide_eq_false hab; omega) h.c5
end Go.Proofs.Ytchikndofpkjmaa

namespace Go.Proofs.Ytchikndofpkjmaa

theorem chn.at {α : Type} {r : α → α → Prop} (d : α) : ∀ {P : List α}, chn r P → ∀ j, j + 1 < P.length → r (P.getD j d) (P.getD (j + 1) d) := by
  intro P
  induction P with
  | nil => intro _ j hj; exact absurd hj (Nat.not_lt_zero _)
  | cons a P ih =>
    intro h j hj
    cases P with
    | nil => simp at hj
    | cons b P =>
      cases j with
      | zero => exact h.1
      | succ j => exact ih h.2 j (by simp at hj ⊢; omega)
theorem ch3.at {α : Type} {r : α → α → Prop} (d : α) : ∀ {P : List α}, ch3 r P → ∀ j, j + 2 < P.length → r (P.getD j d) (P.getD (j + 2) d) := by
  intro P
  induction P with
  | nil => intro _ j hj; exact absurd hj (Nat.not_lt_zero _)
  | cons a P ih =>
    intro h j hj
    cases P with
    | nil => simp at hj
    | cons b P =>
      cases P with
      | nil => simp only [List.length_cons, List.length_nil] at hj; omega
      | cons c P =>
        cases j with
        | zero => exact h.1
        | succ j => exact ih h.2 j (by simp at hj ⊢; omega)
/-- Conditions 5 and 6 of chapter 13. -/
theorem Sv.farAt {g w k c now : Int} {P : List Nat} {I : List It} (h : Sv g w k c now P I) {j : Nat} (hj : j < P.length) (h0 : 1 < j) : (k + 1) * ofZ g ((P.map (mrkA I)).getD j mk0) < k * ofZ g ((P.map (mrkA I)).getD (j - 2) mk0) := by
  have e := getD_map (I := I) hj
  have hp := h.lt _ (getD_in hj)
  have e2 := getD_map (I := I) (P := P) (j := j - 2) (by omega)
  have hp2 := h.lt _ (getD_in (P := P) (j := j - 2) (by omega))
  rw [e, e2, ofZ_mrkA h.g1 h.vals hp, ofZ_mrkA h.g1 h.vals hp2]
  have := h.far.at 0 (j - 2) (by omega)
  rwa [show j - 2 + 2 = j by omega] at this
theorem Sv.nearAt {g w k c now : Int} {P : List Nat} {I : List It} (h : Sv g w k c now P I) {j : Nat} (hj : j < P.length) (h0 : 0 < j) (h1 : ((P.map (mrkA I)).getD (j - 1) mk0).sq + 1 < ((P.map (mrkA I)).getD j mk0).sq) : k * ofZ g ((P.map (mrkA I)).getD (j - 1) mk0) ≤ (k + 1) * ofZ g ((P.map (mrkA I)).getD j mk0) := by
  have e := getD_map (I := I) hj
  have hp := h.lt _ (getD_in hj)
  have e1 := getD_map (I := I) (P := P) (j := j - 1) (by omega)
  have hp2 := h.lt _ (getD_in (P := P) (j := j - 1) (by omega))
  rw [e, e1] at h1
  rw [e, e1, ofZ_mrkA h.g1 h.vals hp, ofZ_mrkA h.g1 h.vals hp2]
  have h2 := h.c6.at 0 (j - 1) (by omega)
  rw [show j - 1 + 1 = j by omega] at h2
  rcases h2 with g1 | g1
  · have h1 : ((P.getD (j - 1) 0 : Nat) : Int) + 1 + 1 < ((P.getD j 0 : Nat) : Int) + 1 := h1
    omega
  · exact g1
end Go.Proofs.Ytchikndofpkjmaa

namespace Go.Proofs.Ytchikndofpkjmaa
open Go.ChangeShapes Go.WideShapes Go.ChangeAt Go.RowKit Go.Joins Go.Deep

section
variable {H : Type} {enc : TypeId × Value → H} {w : World} {base : Nat} {spare : Nat → Bool} {held : Bool}
set_option maxRecDepth 100000 in
theorem cells_items2 {n : Nat} {cs : List Value} {x : DataW H × List MemPlace} (h : DataW.trod enc Try.prog w 0 (fun _ => true) held n 45 cs = some x) :
    ∃ (A : Option Addr) (len cap : Nat) (L : List It), cs = [.slice A len cap] ∧ len ≤ cap ∧ Sl w A len L ∧ InI L := by
  rcases open_slice_pairs Try.underlying45 Try.underlying51 item_cells rfl rfl int64_cells int64_cells h with ⟨hc, hx⟩ | ⟨a, len, cap, m, k, V0, V1, D0, D1, P0, P1, hc, _, hl, hm, hmm, hx, hall⟩
  · exact ⟨none, 0, 0, [], hc, Nat.le_refl _, Sl.none_, fun x hx => by cases hx⟩
  · simp only [if_true] at hmm
    subst hmm
    have each : ∀ i, i < m → ∃ z : It, w.cell? (a.add (i * 2)) = some (.int .i64 z.1) ∧ w.cell? (a.add (i * 2 + 1)) = some (.int .i64 z.2) ∧ In z.1 ∧ In z.2 := fun i hi => by
      obtain ⟨h1, h2, h3, h4⟩ := hall i hi
      obtain ⟨z0, e0, _, f0⟩ := DataW.trod_int Try.underlying2 h3
      obtain ⟨z1, e1, _, f1⟩ := DataW.trod_int Try.underlying2 h4
      simp at e0 e1
      exact ⟨(z0, z1), by rw [h1, e0], by rw [h2, e1], in_of_wf f0, in_of_wf f1⟩
    obtain ⟨z, hz⟩ := choose_lt each
    refine ⟨some a, len, m, (List.range len).map z, hc, hl, ⟨by simp, fun hn => ?_⟩, fun x hx => ?_⟩
    rotate_left
    · obtain ⟨j, hj, rfl⟩ := List.mem_map.1 hx
      have := hz j (by have := List.mem_range.1 hj; omega)
      exact this.2.2
    have hsp : a.spot = none := by
      have := World.cell?_spot (hz 0 (by omega)).1
      simpa [Addr.add] using this
    obtain ⟨b, o, s⟩ := a
    simp at hsp
    subst hsp
    refine ⟨b, o, rfl, fun j u hj => ?_⟩
    have hjl : j < len * 2 := by
      rcases Nat.lt_or_ge j (len * 2) with g | g
      · exact g
      · rw [List.getElem?_eq_none (by rw [fl_length]; simp; omega)] at hj; cases hj
    have hk : j / 2 < ((List.range len).map z).length := by simp; omega
    obtain ⟨c0, c1, _, _⟩ := hz (j / 2) (by omega)
    rw [add_at] at c0 c1
    rcases (by omega : j = j / 2 * 2 ∨ j = j / 2 * 2 + 1) with e | e
    · have := fl_get0 _ _ hk
      rw [← e, hj] at this
      rw [← e] at c0
      rw [c0, this]; simp
    · have := fl_get1 _ _ hk
      rw [← e, hj] at this
      rw [← e] at c1
      rw [c1, this]; simp
set_option maxRecDepth 100000 in
theorem open_items2 {r : Reach} {b0 : Nat} {v : Value} {d : DataW H} {p : List MemPlace} (hv : Value.okWide Try.prog w r b0 45 v) (h : DataW.Trod enc Try.prog w 0 (fun _ => true) held 45 v d p) :
    ∃ (n k : Nat) (A : Option Addr) (L : List It), v = .slice A n k ∧ n ≤ k ∧ Sl w A n L ∧ InI L := by
  obtain ⟨fuel, hf⟩ := h
  obtain ⟨A, len, cap, L, es, hl, hS, hI⟩ := cells_items2 hf
  obtain ⟨a, n, c, rfl⟩ := okWide_slice Try.underlying45 hv
  simp [Value.cells] at es
  obtain ⟨rfl, rfl, rfl⟩ := es
  exact ⟨_, _, _, L, rfl, hl, hS, hI⟩
end
end Go.Proofs.Ytchikndofpkjmaa
