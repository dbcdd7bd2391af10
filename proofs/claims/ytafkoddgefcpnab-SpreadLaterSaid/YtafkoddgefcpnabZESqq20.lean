/- Texts of these claims, one after the other. -/
import Derived.Test.YtafkoddgefcpnabRows
import Derived.Test.YtafkoddgefcpnabZGLawq19
import Derived.Test.YtafkoddgefcpnabZKAggq22
namespace Go.Proofs.Ytafkoddgefcpnab
open Go.RowKit

/-- The sum of the squares of the values. -/
def sqZ (L : List It) : Int := (L.map (fun x => x.2 * x.2)).sum
/-- Items whose ticks and values are int64. -/
def InI (L : List It) : Prop := ∀ x ∈ L, In x.1 ∧ In x.2
theorem InI.at_ {L : List It} (h : InI L) {i : Nat} (hi : i < L.length) : In (L.getD i (0, 0)).1 ∧ In (L.getD i (0, 0)).2 := h _ (by simp [List.getD, hi])
theorem take_next {L : List It} {i : Nat} (hi : i < L.length) : L.take (i + 1) = L.take i ++ [L.getD i (0, 0)] := by rw [List.take_add_one]; simp [List.getD, hi]
theorem sqZ_next {L : List It} {i : Nat} (hi : i < L.length) : sqZ (L.take (i + 1)) = sqZ (L.take i) + (L.getD i (0, 0)).2 * (L.getD i (0, 0)).2 := by
  rw [take_next hi]; simp [sqZ]
theorem sqZ_nonneg (L : List It) : 0 ≤ sqZ L := by
  induction L with
  | nil => simp [sqZ]
  | cons x L ih =>
    have : 0 ≤ x.2 * x.2 := by
      rcases Int.le_total 0 x.2 with h | h
      · exact Int.mul_nonneg h h
      · rw [← Int.neg_mul_neg]; exact Int.mul_nonneg (by omega) (by omega)
    simp only [sqZ, List.map_cons, List.sum_cons] at *
    omega
theorem sq_abs (v : Int) : (v.natAbs : Int) * (v.natAbs : Int) = v * v := by
  rcases Int.natAbs_eq v with h | h
  · rw [← h]
  · have e : (v.natAbs : Int) = -v := by omega
    rw [e, Int.neg_mul_neg]
theorem sq_in {v : Int} (h : In v) : 0 ≤ v * v ∧ v * v ≤ 85070591730234615865843651857942052864 := by
  unfold In at h
  rw [← sq_abs]
  have h1 : (v.natAbs : Int) ≤ 9223372036854775808 := by omega
  have h2 : 0 ≤ (v.natAbs : Int) := by omega
  generalize (v.natAbs : Int) = a at *
  have := Int.mul_le_mul h1 h1 h2 (by omega)
  exact ⟨Int.mul_nonneg h2 h2, by omega⟩
theorem In2_of_le {v : Int} (h0 : 0 ≤ v) (h1 : v ≤ 85070591730234615865843651857942052864) : In2 v := ⟨h0, by omega⟩

/-- What the walk of squares holds. -/
structure Sq (w wr : World) (v : Int) : Prop where
  up : Up w wr
  r0 : wr.cell? ⟨w.heap.size, 0, none⟩ = some (.int .u64 0)
  r1 : wr.cell? ⟨w.heap.size, 1, none⟩ = some (.int .u64 0)
  r2 : wr.cell? ⟨w.heap.size, 2, none⟩ = some (.int .u64 0)
  s0 : wr.cell? ⟨w.heap.size + 1, 0, none⟩ = some (.int .u64 (dg3 v 0))
  s1 : wr.cell? ⟨w.heap.size + 1, 1, none⟩ = some (.int .u64 (dg3 v 1))
  s2 : wr.cell? ⟨w.heap.size + 1, 2, none⟩ = some (.int .u64 (dg3 v 2))
theorem Sq.keep {w w1 w2 : World} {v : Int} (h : Sq w w1 v) (hu : Up w1 w2) : Sq w w2 v :=
  ⟨h.up.trans hu, hu.keep _ _ _ h.r0, hu.keep _ _ _ h.r1, hu.keep _ _ _ h.r2, hu.keep _ _ _ h.s0, hu.keep _ _ _ h.s1, hu.keep _ _ _ h.s2⟩
end Go.Proofs.Ytafkoddgefcpnab

namespace Go.Proofs.Ytafkoddgefcpnab
open Go.ChangeShapes Go.WideShapes Go.ChangeAt Go.RowKit Go.Joins Go.Deep

section
variable {H : Type} {enc : TypeId × Value → H} {w : World} {base : Nat} {spare : Nat → Bool} {held : Bool}
set_option maxRecDepth 100000 in
theorem cells_items2 {n : Nat} {cs : List Value} {x : DataW H × List MemPlace} (h : DataW.trod enc Try.prog w 0 (fun _ => true) held n 22 cs = some x) :
    ∃ (A : Option Addr) (len cap : Nat) (L : List It), cs = [.slice A len cap] ∧ len ≤ cap ∧ Sl w A len L ∧ InI L := by
  rcases open_slice_pairs Try.underlying22 Try.underlying40 item_cells rfl rfl int64_cells int64_cells h with ⟨hc, hx⟩ | ⟨a, len, cap, m, k, V0, V1, D0, D1, P0, P1, hc, _, hl, hm, hmm, hx, hall⟩
  · exact ⟨none, 0, 0, [], hc, Nat.le_refl _, Sl.none_, fun x hx => by cases hx⟩
  · simp only [if_true] at hmm
    subst hmm
    have each : ∀ i, i < m → ∃ z : It, w.cell? (a.add (i * 2)) = some (.int .i64 z.1) ∧ w.cell? (a.add (i * 2 + 1)) = some (.int .i64 z.2) ∧ In z.1 ∧ In z.2 := fun i hi => by
      obtain ⟨h1, h2, h3, h4⟩ := hall i hi
      obtain ⟨z0, e0, _, f0⟩ := DataW.trod_int Try.underlying2 h3
      obtain ⟨z1, e1, _, f1⟩ := DataW.trod_int Try.underlying2 h4
      simp at e0 e1
      exact ⟨(z0, z1), by rw [h1, e0], by rw [h2, e1], in_of_wf f0, in_of_wf f1⟩
    obtain ⟨z, hz⟩ := choose_lt each
    refine ⟨some a, len, m, (List.range len).map z, hc, hl, ⟨by simp, fun hn => ?_⟩, fun x hx => ?_⟩
    rotate_left
    · obtain ⟨j, hj, rfl⟩ := List.mem_map.1 hx
      have := hz j (by have := List.mem_range.1 hj; omega)
      exact this.2.2
    have hsp : a.spot = none := by
      have := World.cell?_spot (hz 0 (by omega)).1
      simpa [Addr.add] using this
    obtain ⟨b, o, s⟩ := a
    simp at hsp
    subst hsp
    refine ⟨b, o, rfl, fun j u hj => ?_⟩
    have hjl : j < len * 2 := by
      rcases Nat.lt_or_ge j (len * 2) with g | g
      · exact g
      · rw [List.getElem?_eq_none (by rw [fl_length]; simp; omega)] at hj; cases hj
    have hk : j / 2 < ((List.range len).map z).length := by simp; omega
    obtain ⟨c0, c1, _, _⟩ := hz (j / 2) (by omega)
    rw [add_at] at c0 c1
    rcases (by omega : j = j / 2 * 2 ∨ j = j / 2 * 2 + 1) with e | e
    · have := fl_get0 _ _ hk
      rw [← e, hj] at this
      rw [← e] at c0
      rw [c0, this]; simp
    · have := fl_get1 _ _ hk
      rw [← e, hj] at this
      rw [← e] at c1
      rw [c1, this]; simp
set_option maxRecDepth 100000 in
theorem open_items2 {r : Reach} {b0 : Nat} {v : Value} {d : DataW H} {p : List MemPlace} (hv : Value.okWide Try.prog w r b0 22 v) (h : DataW.Trod enc Try.prog w 0 (fun _ => true) held 22 v d p) :
    ∃ (n k : Nat) (A : Option Addr) (L : List It), v = .slice A n k ∧ n ≤ k ∧ Sl w A n L ∧ InI L := by
  obtain ⟨fuel, hf⟩ := h
  obtain ⟨A, len, cap, L, es, hl, hS, hI⟩ := cells_items2 hf
  obtain ⟨a, n, c, rfl⟩ := okWide_slice Try.underlying22 hv
  simp [Value.cells] at es
  obtain ⟨rfl, rfl, rfl⟩ := es
  exact ⟨_, _, _, L, rfl, hl, hS, hI⟩
end
end Go.Proofs.Ytafkoddgefcpnab

namespace Go.Proofs.Ytafkoddgefcpnab

/-- A mark: number and tick of its first item; number, sum, sum of squares, least and greatest of the values from it on. -/
structure Mrk where
  sq : Int
  t : Int
  n : Int
  s : Int
  q : Int
  lo : Int
  hi : Int
/-- The values from a place on; the mark of a place. -/
def vlF (I : List It) (p : Nat) : List Int := (I.drop p).map (fun x => x.2)
def mrkA (I : List It) (p : Nat) : Mrk := ⟨(p : Int) + 1, (I.getD p (0, 0)).1, ((vlF I p).length : Int), suL (vlF I p), sqL (vlF I p), mnL (vlF I p), mxL (vlF I p)⟩
def agP (g : Int) (I : List It) (p : Nat) : Int := agZ g (vlF I p)
theorem vlF_len (I : List It) (p : Nat) : (vlF I p).length = I.length - p := by unfold vlF; rw [List.length_map, List.length_drop]
theorem vlF_ne {I : List It} {p : Nat} (h : p < I.length) : vlF I p ≠ [] := by
  intro e
  have := congrArg List.length e
  rw [vlF_len, List.length_nil] at this
  omega
theorem vlF_split (I : List It) {p q : Nat} (h : p ≤ q) : vlF I p = ((I.drop p).take (q - p)).map (fun x => x.2) ++ vlF I q := by
  unfold vlF
  rw [← List.map_append]
  congr 1
  have := List.take_append_drop (q - p) (I.drop p)
  rw [List.drop_drop, show p + (q - p) = q by omega] at this
  exact this.symm
theorem vlF_val {g : Int} {I : List It} (h : ∀ x ∈ I, valG g x.2) (p : Nat) : ∀ y ∈ vlF I p, valG g y := by
  intro y hy
  obtain ⟨x, hx, rfl⟩ := List.mem_map.1 hy
  exact h x (List.mem_of_mem_drop hx)
theorem agP_nn {g : Int} {I : List It} (hg : 1 ≤ g ∧ g ≤ 4) (h : ∀ x ∈ I, valG g x.2) (p : Nat) : 0 ≤ agP g I p := ag_nn hg (vlF_val h p)
/-- Ticks ascend. -/
theorem asc_le {I : List It} (h : I.Pairwise (fun x y => x.1 ≤ y.1)) {i j : Nat} (hij : i ≤ j) (hj : j < I.length) : (I.getD i (0, 0)).1 ≤ (I.getD j (0, 0)).1 := by
  rw [List.getD_eq_getElem?_getD, List.getD_eq_getElem?_getD, List.getElem?_eq_getElem hj, List.getElem?_eq_getElem (by omega : i < I.length)]
  rcases Nat.eq_or_lt_of_le hij with e | e
  · subst e; exact Int.le_refl _
  · exact List.pairwise_iff_getElem.1 h i j (by omega) hj e
end Go.Proofs.Ytafkoddgefcpnab

namespace Go.Proofs.Ytafkoddgefcpnab

/-- Places P are the marks of the items I, at the tick now, for windows of w ticks: neighbours are near, and no mark is close to its second successor. -/
structure SnM (nr : List It → Nat → Nat → Prop) (cl : List It → Nat → Nat → Bool) (g w c now : Int) (P : List Nat) (I : List It) : Prop where
  g1 : 1 ≤ g ∧ g ≤ 4
  w1 : 1 ≤ w
  c1 : 1 ≤ c
  up : P.Pairwise (fun a b => a < b)
  lt : ∀ p ∈ P, p < I.length
  last : ∀ p, P.getLast? = some p → p + 1 = I.length
  none_ : P = [] → ∀ i, i < I.length → (I.getD i (0, 0)).1 ≤ now - w
  old : ∀ p, P.head? = some p → ∀ i, i < p → (I.getD i (0, 0)).1 ≤ now - w
  live : ∀ p ∈ P.tail, now - w < (I.getD p (0, 0)).1
  one : ∀ p, P = [p] → now - w < (I.getD p (0, 0)).1
  c6 : chn (nr I) P
  c5 : ch3 (fun a b => cl I a b = false) P
  asc : I.Pairwise (fun x y => x.1 ≤ y.1)
  rg : ∀ x ∈ I, 0 ≤ x.1 ∧ x.1 ≤ now
  vals : ∀ x ∈ I, valG g x.2
  cap : ∀ p, P.head? = some p → (I.length : Int) - p ≤ c
theorem chn.suffix {α : Type} {r : α → α → Prop} {R : List α} : ∀ {Q : List α}, chn r (Q ++ R) → chn r R := by
  intro Q
  induction Q with
  | nil => exact fun h => h
  | cons q Q ih => exact fun h => ih h.tail
theorem ch3.suffix {α : Type} {r : α → α → Prop} {R : List α} : ∀ {Q : List α}, ch3 r (Q ++ R) → ch3 r R := by
  intro Q
  induction Q with
  | nil => exact fun h => h
  | cons q Q ih => exact fun h => ih h.tail
/-- Are two marks close; neighbours: adjacent by number, or close. -/
def clP (g k : Int) (I : List It) (a b : Nat) : Bool := decide (k * agP g I a ≤ (k + 1) * agP g I b)
def nrP (g k : Int) (I : List It) (a b : Nat) : Prop := b = a + 1 ∨ k * agP g I a ≤ (k + 1) * agP g I b
/-- The state of chapter 13. -/
abbrev Sv (g w k c now : Int) (P : List Nat) (I : List It) : Prop := SnM (nrP g k) (clP g k) g w c now P I
theorem Sv.far {g w k c now : Int} {P : List Nat} {I : List It} (h : Sv g w k c now P I) : ch3 (fun a b => (k + 1) * agP g I b < k * agP g I a) P := ch3.imp (fun a _ b _ hab => by have := of_decide_eq_false hab; omega) h.c5
theorem bern (k : Nat) : ∀ j : Nat, (k + j) * k ^ j ≤ k * (k + 1) ^ j := by
  intro j
  induction j with
  | zero => simp
  | succ j ih =>
    have h1 : (k + 1) * ((k + j) * k ^ j) ≤ (k + 1) * (k * (k + 1) ^ j) := Nat.mul_le_mul_left _ ih
    have e1 : k * (k + 1) ^ (j + 1) = (k + 1) * (k * (k + 1) ^ j) := by rw [Nat.pow_succ]; ac_rfl
    have e2 : (k + (j + 1)) * k ^ (j + 1) = ((k + (j + 1)) * k) * k ^ j := by rw [Nat.pow_succ]; ac_rfl
    have e3 : (k + 1) * ((k + j) * k ^ j) = ((k + 1) * (k + j)) * k ^ j := by ac_rfl
    rw [e1, e2]
    refine Nat.le_trans (Nat.mul_le_mul_right _ ?_) (e3 ▸ h1)
    have g1 : (k + (j + 1)) * k = k * k + (j * k + k) := by rw [Nat.add_mul, Nat.add_mul, Nat.one_mul]
    have g2 : (k + 1) * (k + j) = k * k + j * k + (k + j) := by rw [Nat.add_mul, Nat.mul_add, Nat.one_mul, Nat.mul_comm k j]
    omega
theorem double_pow {k : Nat} (hk : 0 < k) : 2 * k ^ k ≤ (k + 1) ^ k := by
  have h := bern k k
  have e : (k + k) * k ^ k = k * (2 * k ^ k) := by rw [← Nat.two_mul]; ac_rfl
  rw [e] at h
  exact Nat.le_of_mul_le_mul_left h hk
theorem ch3.drop {α : Type} {r : α → α → Prop} {P : List α} (n : Nat) (h : ch3 r P) : ch3 r (P.drop n) := by
  rw [← List.take_append_drop n P] at h
  exact h.suffix
theorem jump {α : Type} (f : α → Int) (k : Nat) : ∀ (j : Nat) (P : List α), ch3 (fun a b => ((k : Int) + 1) * f b < k * f a) P → ∀ a b, P.head? = some a → (P.drop (2 * j)).head? = some b → (((k + 1) ^ j : Nat) : Int) * f b ≤ ((k ^ j : Nat) : Int) * f a := by
  intro j
  induction j with
  | zero =>
    intro P _ a b ha hb
    rw [Nat.mul_zero, List.drop_zero, ha] at hb
    injection hb with e
    subst e
    simp
  | succ j ih =>
    intro P hc a b ha hb
    cases P with
    | nil => cases ha
    | cons x P =>
      injection ha with e
      subst e
      cases P with
      | nil => rw [show 2 * (j + 1) = (2 * j + 1) + 1 by omega, List.drop_succ_cons, List.drop_nil] at hb; cases hb
      | cons y P =>
        rw [show 2 * (j + 1) = (2 * j + 1) + 1 by omega, List.drop_succ_cons, List.drop_succ_cons] at hb
        cases P with
        | nil => rw [List.drop_nil] at hb; cases hb
        | cons z P =>
          have h1 := ih (z :: P) hc.2.tail z b rfl hb
          have h2 : ((k : Int) + 1) * f z < k * f x := hc.1
          have h3 : ((k : Int) + 1) * ((((k + 1) ^ j : Nat) : Int) * f b) ≤ ((k : Int) + 1) * (((k ^ j : Nat) : Int) * f z) := Int.mul_le_mul_of_nonneg_left h1 (by omega)
          have h4 : ((k ^ j : Nat) : Int) * (((k : Int) + 1) * f z) ≤ ((k ^ j : Nat) : Int) * (k * f x) := Int.mul_le_mul_of_nonneg_left (Int.le_of_lt h2) (Int.natCast_nonneg _)
          have e1 : (((k + 1) ^ (j + 1) : Nat) : Int) * f b = ((k : Int) + 1) * ((((k + 1) ^ j : Nat) : Int) * f b) := by
            rw [Nat.pow_succ, Int.natCast_mul, Int.natCast_add]; simp only [Int.natCast_one]; ac_rfl
          have e2 : ((k ^ (j + 1) : Nat) : Int) * f x = ((k ^ j : Nat) : Int) * (k * f x) := by
            rw [Nat.pow_succ, Int.natCast_mul]; ac_rfl
          have e3 : ((k : Int) + 1) * (((k ^ j : Nat) : Int) * f z) = ((k ^ j : Nat) : Int) * (((k : Int) + 1) * f z) := by ac_rfl
          rw [e1, e2]
          rw [e3] at h3
          exact Int.le_trans h3 h4
/-- The number of marks. -/
theorem few_ch3 {α : Type} (f : α → Int) {k : Nat} (hk : 0 < k) : ∀ (B : Nat) (P : List α), ch3 (fun a b => ((k : Int) + 1) * f b < k * f a) P → (∀ p ∈ P, 0 ≤ f p) → (∀ a, P.head? = some a → f a < ((2 ^ B : Nat) : Int)) → P.length ≤ 2 * k * B + 2 := by
  intro B
  induction B with
  | zero =>
    intro P hc hn hf
    cases P with
    | nil => exact Nat.zero_le _
    | cons a P =>
      cases P with
      | nil => simp
      | cons b P =>
        cases P with
        | nil => simp
        | cons c P =>
          have h1 : ((k : Int) + 1) * f c < k * f a := hc.1
          have h2 : f a < 1 := hf a rfl
          have h3 := hn a List.mem_cons_self
          have h4 := hn c (by simp)
          have e : f a = 0 := by omega
          rw [e, Int.mul_zero] at h1
          have := Int.mul_nonneg (show (0 : Int) ≤ (k : Int) + 1 by omega) h4
          omega
  | succ B ih =>
    intro P hc hn hf
    by_cases hl : P.length ≤ 2 * k
    · have : 2 * k * (B + 1) = 2 * k * B + 2 * k := by rw [Nat.mul_add, Nat.mul_one]
      omega
    · have h1 := ih (P.drop (2 * k)) (hc.drop _) (fun p hp => hn p (List.mem_of_mem_drop hp)) (fun b hb => by
        cases ha : P.head? with
        | none => rw [List.head?_eq_none_iff] at ha; subst ha; simp at hl
        | some a =>
          have h2 := jump f k k P hc a b ha hb
          have h3 := double_pow hk
          have hb0 : 0 ≤ f b := hn b (List.mem_of_mem_drop (List.mem_of_mem_head? hb))
          have h4 : ((2 * k ^ k : Nat) : Int) * f b ≤ (((k + 1) ^ k : Nat) : Int) * f b := Int.mul_le_mul_of_nonneg_right (by omega) hb0
          have h5 : ((k ^ k : Nat) : Int) * (2 * f b) ≤ ((k ^ k : Nat) : Int) * f a := by
            have e : ((2 * k ^ k : Nat) : Int) * f b = ((k ^ k : Nat) : Int) * (2 * f b) := by rw [Int.natCast_mul]; simp only [Int.cast_ofNat_Int]; ac_rfl
            rw [e] at h4
            exact Int.le_trans h4 h2
          have h6 : (0 : Int) < ((k ^ k : Nat) : Int) := by have := Nat.pow_pos (n := k) hk; omega
          have h7 : 2 * f b ≤ f a := Int.le_of_mul_le_mul_left h5 h6
          have h8 := hf a ha
          rw [Nat.pow_succ, Int.natCast_mul] at h8
          have : ((2 : Nat) : Int) = 2 := rfl
          rw [this] at h8
          omega)
      rw [List.length_drop] at h1
      have : 2 * k * (B + 1) = 2 * k * B + 2 * k := by rw [Nat.mul_add, Nat.mul_one]
      omega
end Go.Proofs.Ytafkoddgefcpnab

namespace Go.Proofs.Ytafkoddgefcpnab

def mk0 : Mrk := ⟨0, 0, 0, 0, 0, 0, 0⟩
/-- n items with the sum s and the sum of squares q may have values from lo to hi. -/
def prtP (n s q lo hi : Int) : Prop := n * lo ≤ s ∧ s ≤ n * hi ∧ 0 ≤ q ∧ q ≤ n * 4096 * 4096 ∧ s * s ≤ n * q
/-- What chapter 13 asks of the mark at place j (conditions 1 to 4). -/
structure OkB (g w c now seq : Int) (X : List Mrk) (j : Nat) : Prop where
  sq1 : 1 ≤ (X.getD j mk0).sq
  sq2 : (X.getD j mk0).sq ≤ seq
  num : (X.getD j mk0).n = seq - (X.getD j mk0).sq + 1
  few : (X.getD j mk0).n ≤ c
  asc : 0 < j → (X.getD (j - 1) mk0).sq < (X.getD j mk0).sq
  tk : 0 ≤ (X.getD j mk0).t ∧ (X.getD j mk0).t ≤ now
  tasc : 0 < j → (X.getD (j - 1) mk0).t ≤ (X.getD j mk0).t
  live : 0 < j ∨ X.length = 1 → now - w < (X.getD j mk0).t
  lo : valG g (X.getD j mk0).lo
  hi : valG g (X.getD j mk0).hi
  lohi : (X.getD j mk0).lo ≤ (X.getD j mk0).hi
  prt : prtP (X.getD j mk0).n (X.getD j mk0).s (X.getD j mk0).q (X.getD j mk0).lo (X.getD j mk0).hi
  last : j + 1 = X.length → (X.getD j mk0).sq = seq ∧ (X.getD j mk0).lo = (X.getD j mk0).s ∧ (X.getD j mk0).hi = (X.getD j mk0).s ∧ (X.getD j mk0).q = (X.getD j mk0).s * (X.getD j mk0).s
  nlo : 0 < j → (X.getD (j - 1) mk0).lo ≤ (X.getD j mk0).lo
  nhi : 0 < j → (X.getD j mk0).hi ≤ (X.getD (j - 1) mk0).hi
  nprt : 0 < j → prtP ((X.getD (j - 1) mk0).n - (X.getD j mk0).n) ((X.getD (j - 1) mk0).s - (X.getD j mk0).s) ((X.getD (j - 1) mk0).q - (X.getD j mk0).q) (X.getD (j - 1) mk0).lo (X.getD (j - 1) mk0).hi
theorem getD_map {I : List It} {P : List Nat} {j : Nat} (h : j < P.length) : (P.map (mrkA I)).getD j mk0 = mrkA I (P.getD j 0) := by
  rw [List.getD_eq_getElem?_getD, List.getElem?_map, List.getD_eq_getElem?_getD, List.getElem?_eq_getElem h]; rfl
theorem getD_in {P : List Nat} {j : Nat} (h : j < P.length) : P.getD j 0 ∈ P := by
  rw [List.getD_eq_getElem?_getD, List.getElem?_eq_getElem h]; exact List.getElem_mem h
theorem prt_of {g : Int} {A : List Int} {lo hi : Int} (h : ∀ x ∈ A, valG g x) (h1 : ∀ x ∈ A, lo ≤ x ∧ x ≤ hi) : prtP A.length (suL A) (sqL A) lo hi := by
  refine ⟨suL_ge (fun x hx => (h1 x hx).1), suL_le (fun x hx => (h1 x hx).2), sqL_nn A, ?_, cauchy A⟩
  have := sqL_le (A := A) (m := 4096) (fun x hx => ⟨(h x hx).1, (h x hx).2.1⟩)
  omega
theorem SnM.ok {nr : List It → Nat → Nat → Prop} {cl : List It → Nat → Nat → Bool} {g w c now : Int} {P : List Nat} {I : List It} (h : SnM nr cl g w c now P I) {j : Nat} (hj : j < P.length) : OkB g w c now I.length (P.map (mrkA I)) j := by
  have e := getD_map (I := I) hj
  have hp := h.lt _ (getD_in hj)
  have hprev : 0 < j → (P.map (mrkA I)).getD (j - 1) mk0 = mrkA I (P.getD (j - 1) 0) ∧ P.getD (j - 1) 0 < P.getD j 0 := fun h0 => by
    refine ⟨getD_map (by omega), ?_⟩
    rw [List.getD_eq_getElem?_getD, List.getD_eq_getElem?_getD, List.getElem?_eq_getElem hj, List.getElem?_eq_getElem (by omega : j - 1 < P.length)]
    exact List.pairwise_iff_getElem.1 h.up (j - 1) j (by omega) hj (by omega)
  have hlen : ((vlF I (P.getD j 0)).length : Int) = I.length - P.getD j 0 := by rw [vlF_len]; omega
  have hmem : I.getD (P.getD j 0) (0, 0) ∈ I := by
    rw [List.getD_eq_getElem?_getD, List.getElem?_eq_getElem hp]; exact List.getElem_mem hp
  have hlow : (P.getD 0 0) ≤ P.getD j 0 := by
    rcases Nat.eq_zero_or_pos j with e0 | e0
    · subst e0; exact Nat.le_refl _
    · rw [List.getD_eq_getElem?_getD, List.getD_eq_getElem?_getD, List.getElem?_eq_getElem hj, List.getElem?_eq_getElem (by omega : 0 < P.length)]
      exact Nat.le_of_lt (List.pairwise_iff_getElem.1 h.up 0 j (by omega) hj e0)
  have hcap := h.cap (P.getD 0 0) (by
    cases P with
    | nil => exact absurd hj (Nat.not_lt_zero _)
    | cons a P => rfl)
  have hlive : 0 < j ∨ P.length = 1 → now - w < (I.getD (P.getD j 0) (0, 0)).1 := by
    intro h0
    cases P with
    | nil => exact absurd hj (Nat.not_lt_zero _)
    | cons a P =>
      cases j with
      | zero =>
        have : P = [] := by
          rcases h0 with h0 | h0
          · exact absurd h0 (Nat.lt_irrefl _)
          · rw [List.length_cons] at h0; exact List.length_eq_zero_iff.1 (by omega)
        subst this
        exact h.one a rfl
      | succ j =>
        refine h.live _ ?_
        show P.getD j 0 ∈ P
        exact getD_in (by rw [List.length_cons] at hj; omega)
  have hV := vlF_val h.vals (P.getD j 0)
  have hne := vlF_ne hp
  have hlast : j + 1 = P.length → (P.getD j 0) + 1 = I.length := fun h0 => h.last _ (by
    rw [List.getLast?_eq_getElem?, List.getD_eq_getElem?_getD, List.getElem?_eq_getElem hj, show P.length - 1 = j by omega, List.getElem?_eq_getElem hj]; rfl)
  have hmid : 0 < j → ∃ D : List Int, vlF I (P.getD (j - 1) 0) = D ++ vlF I (P.getD j 0) := fun h0 => ⟨_, vlF_split I (Nat.le_of_lt (hprev h0).2)⟩
  constructor
  · rw [e]; show 1 ≤ ((P.getD j 0 : Nat) : Int) + 1; omega
  · rw [e]; show ((P.getD j 0 : Nat) : Int) + 1 ≤ I.length; omega
  · rw [e]; show ((vlF I (P.getD j 0)).length : Int) = I.length - (((P.getD j 0 : Nat) : Int) + 1) + 1; omega
  · rw [e]; show ((vlF I (P.getD j 0)).length : Int) ≤ c; omega
  · intro h0; obtain ⟨e1, e2⟩ := hprev h0; rw [e, e1]; show ((P.getD (j - 1) 0 : Nat) : Int) + 1 < ((P.getD j 0 : Nat) : Int) + 1; omega
  · rw [e]; exact h.rg _ hmem
  · intro h0; obtain ⟨e1, e2⟩ := hprev h0; rw [e, e1]; exact asc_le h.asc (Nat.le_of_lt e2) hp
  · rw [List.length_map, e]; exact hlive
  · rw [e]; exact hV _ (mnL_mem hne)
  · rw [e]; exact hV _ (mxL_mem hne)
  · rw [e]; exact mn_le_mx hne
  · rw [e]; exact prt_of hV (fun x hx => ⟨mnL_le hx, le_mxL hx⟩)
  · rw [List.length_map, e]
    intro h0
    have h1 := hlast h0
    have h2 : (vlF I (P.getD j 0)).length = 1 := by rw [vlF_len]; omega
    obtain ⟨v, hv⟩ := List.length_eq_one_iff.1 h2
    refine ⟨?_, ?_, ?_, ?_⟩
    · show ((P.getD j 0 : Nat) : Int) + 1 = I.length; omega
    · show mnL (vlF I (P.getD j 0)) = suL (vlF I (P.getD j 0)); rw [hv]; simp [mnL, suL]
    · show mxL (vlF I (P.getD j 0)) = suL (vlF I (P.getD j 0)); rw [hv]; simp [mxL, suL]
    · show sqL (vlF I (P.getD j 0)) = suL (vlF I (P.getD j 0)) * suL (vlF I (P.getD j 0)); rw [hv]; simp [sqL, suL]
  · intro h0; obtain ⟨e1, e2⟩ := hprev h0; obtain ⟨D, eD⟩ := hmid h0; rw [e, e1]; show mnL (vlF I (P.getD (j - 1) 0)) ≤ mnL (vlF I (P.getD j 0)); rw [eD]; exact mnL_app hne
  · intro h0; obtain ⟨e1, e2⟩ := hprev h0; obtain ⟨D, eD⟩ := hmid h0; rw [e, e1]; show mxL (vlF I (P.getD j 0)) ≤ mxL (vlF I (P.getD (j - 1) 0)); rw [eD]; exact mxL_app hne
  · intro h0
    obtain ⟨e1, e2⟩ := hprev h0
    obtain ⟨D, eD⟩ := hmid h0
    have hV2 := vlF_val h.vals (P.getD (j - 1) 0)
    have hb : ∀ x ∈ D, mnL (vlF I (P.getD (j - 1) 0)) ≤ x ∧ x ≤ mxL (vlF I (P.getD (j - 1) 0)) := fun x hx => by
      have hx2 : x ∈ vlF I (P.getD (j - 1) 0) := by rw [eD]; exact List.mem_append_left _ hx
      exact ⟨mnL_le hx2, le_mxL hx2⟩
    have h1 := prt_of (g := g) (fun x hx => hV2 x (by rw [eD]; exact List.mem_append_left _ hx)) hb
    rw [e, e1]
    show prtP (((vlF I (P.getD (j - 1) 0)).length : Int) - ((vlF I (P.getD j 0)).length : Int)) (suL (vlF I (P.getD (j - 1) 0)) - suL (vlF I (P.getD j 0))) (sqL (vlF I (P.getD (j - 1) 0)) - sqL (vlF I (P.getD j 0))) (mnL (vlF I (P.getD (j - 1) 0))) (mxL (vlF I (P.getD (j - 1) 0)))
    have g1 : ((vlF I (P.getD (j - 1) 0)).length : Int) - ((vlF I (P.getD j 0)).length : Int) = D.length := by rw [eD, List.length_append]; omega
    have g2 : suL (vlF I (P.getD (j - 1) 0)) - suL (vlF I (P.getD j 0)) = suL D := by rw [eD, suL_app]; omega
    have g3 : sqL (vlF I (P.getD (j - 1) 0)) - sqL (vlF I (P.getD j 0)) = sqL D := by rw [eD, sqL_app]; omega
    rw [g1, g2, g3]
    exact h1
end Go.Proofs.Ytafkoddgefcpnab
