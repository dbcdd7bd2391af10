/- What Sum, squares and Squares of the reference of layer 8 return. -/
import Derived.Test.YtafkoddgefcpnabRows
import Derived.Test.YtafkoddgefcpnabZETotq92
namespace Go.Proofs.Ytafkoddgefcpnab
open Go.RowKit

theorem wide_info : (Try.prog.info? 54).map (fun i => (i.zero, i.size, i.bytes)) = some (some (.agg #[.int .u64 0, .int .u64 0]), 2, 16) := by kernel_rfl
theorem bool_info : (Try.prog.info? 4).map (fun i => (i.zero, i.size, i.bytes)) = some (some (.bool false), 1, 1) := by kernel_rfl
theorem blk_newAt {w : World} {t : TypeId} {cs : Array Value} {g : Nat} (hg : g = w.heap.size) : Blk (w.alloc (.cells cs t)) g t cs := by rw [hg]; exact Blk.new w t cs
/-- append of one element; a second row of the call's own stays, and every block that is not the row's. -/
theorem appendQ (sl e ty : TypeId) (z : Value) (sz bt : Nat) (ht : Try.prog.underlying sl = some (.slice e)) (hinf : (Try.prog.info? e).map (fun i => (i.zero, i.size, i.bytes)) = some (some z, sz, bt)) (hzs : z.cells.size = sz) (hbt : bt ≤ 1000)
    (w0 w : World) (A : Option Addr) (n k : Nat) (cs : List Value) (hO : Rw w0 w e sz (.slice A n k) n cs) (hu : Up w0 w) (g : Nat) (ds : List Value) (hd : ds.length = sz) (hrow : Blk w g e ds.toArray) (hone : ∀ u ∈ ds, u.oneCell' = true) (hlen : n + 1 ≤ 1000000)
    (e' : TypeId) (sz' : Nat) (B : Option Addr) (n' k' : Nat) (cs' : List Value) (hB : Rw w0 w e' sz' (.slice B n' k') n' cs') (hap : Apt A B) :
    ∃ A2 k2 w2, (Builtin.append_ #[sl, sl] ty #[.slice A n k, .slice (some ⟨g, 0, none⟩) 1 1]).run Try.prog w = .ok (.slice A2 (n + 1) k2) w2 ∧ Rw w0 w2 e sz (.slice A2 (n + 1) k2) (n + 1) (cs ++ ds) ∧ Rw w0 w2 e' sz' (.slice B n' k') n' cs' ∧ Apt A2 B ∧ Up w0 w2 ∧
      ∀ x t xs, Blk w x t xs → (∀ o, A ≠ some ⟨x, o, none⟩) → Blk w2 x t xs := by
  obtain ⟨g', k2, w2, hr, h1, h2, h3, h4⟩ := appendR sl e ty z sz bt ht hinf hzs hbt w0 w (.slice A n k) n cs hO hu g 0 1 1 ds (by omega) (by omega) (fun j u hj => by rw [Nat.zero_add, Blk.cell hrow]; simpa using hj) hone hlen
  have hne : ∀ o, B ≠ some ⟨g', o, none⟩ := fun o hb => by
    rcases h3 with h | ⟨n0, k0, h⟩
    · have := hB.lt g' o hb; omega
    · cases h
      exact hap g' 0 o rfl hb
  refine ⟨_, k2, w2, hr, h1, hB.stay h4 hne, fun x o o' hx hy => by cases hx; exact hne _ hy, h2, fun x t xs hx ho => h4 x t xs hx (fun e => ?_)⟩
  rcases h3 with h | ⟨n0, k0, h⟩
  · have := Blk.lt hx; omega
  · cases h; exact ho 0 (by rw [e])
/-- What the loops hold: two rows of the call's own, and the item in block q. -/
structure Sg (w W : World) (q : Nat) (p0 p1 : Int) (A1 A2 : Option Addr) (i j k1 k2 : Nat) (cA cB : List Value) : Prop where
  a : Rw w W 54 2 (.slice A1 i k1) i cA
  b : Rw w W 4 1 (.slice A2 j k2) j cB
  ap : Apt A1 A2
  up : Up w W
  it : Blk W q 40 #[.int .i64 p0, .int .i64 p1]
theorem blk_s {W : World} {q : Nat} {p0 p1 : Int} (h : Blk W q 40 #[.int .i64 p0, .int .i64 p1]) : Blk W q 40 #[.int .i64 p0, .int .i64 p1] ∧ W.cell? ⟨q, 1, none⟩ = some (.int .i64 p1) :=
  ⟨h, by rw [Blk.cell h]; rfl⟩
theorem Sg.keep {w W W' : World} {q : Nat} {p0 p1 : Int} {A1 A2 : Option Addr} {i j k1 k2 : Nat} {cA cB : List Value} (h : Sg w W q p0 p1 A1 A2 i j k1 k2 cA cB) (hu : Up W W') : Sg w W' q p0 p1 A1 A2 i j k1 k2 cA cB :=
  ⟨h.a.of_up hu, h.b.of_up hu, h.ap, h.up.trans hu, h.it.up hu⟩
theorem Sg.s {w W : World} {q : Nat} {p0 p1 : Int} {A1 A2 : Option Addr} {i j k1 k2 : Nat} {cA cB : List Value} (h : Sg w W q p0 p1 A1 A2 i j k1 k2 cA cB) : Blk W q 40 #[.int .i64 p0, .int .i64 p1] ∧ W.cell? ⟨q, 1, none⟩ = some (.int .i64 p1) :=
  ⟨h.it, by rw [Blk.cell h.it]; rfl⟩
/-- The cells of the first i wide numbers, and of the first i bools. -/
def wl (xs : Nat → Int) : Nat → List Value
  | 0 => []
  | i + 1 => wl xs i ++ [.int .u64 (hiZ (xs i)), .int .u64 (loZ (xs i))]
def bl_ (sg : Nat → Bool) : Nat → List Value
  | 0 => []
  | i + 1 => bl_ sg i ++ [.bool (sg i)]
theorem wl_len (xs : Nat → Int) (i : Nat) : (wl xs i).length = i * 2 := by
  induction i with
  | zero => rfl
  | succ i ih => simp [wl, ih]; omega
theorem bl_len (sg : Nat → Bool) (i : Nat) : (bl_ sg i).length = i := by
  induction i with
  | zero => rfl
  | succ i ih => simp [bl_, ih]
theorem wl_get (xs : Nat → Int) {n j : Nat} (h : j < n) : (wl xs n)[j * 2]? = some (.int .u64 (hiZ (xs j))) ∧ (wl xs n)[j * 2 + 1]? = some (.int .u64 (loZ (xs j))) := by
  induction n with
  | zero => omega
  | succ n ih =>
    have hl := wl_len xs n
    rcases Nat.lt_or_ge j n with h1 | h1
    · obtain ⟨a, b⟩ := ih h1
      simp only [wl]
      rw [List.getElem?_append_left (by omega), List.getElem?_append_left (by omega)]
      exact ⟨a, b⟩
    · obtain rfl : j = n := by omega
      simp only [wl]
      rw [List.getElem?_append_right (by omega), List.getElem?_append_right (by omega), hl]
      simp
theorem bl_get (sg : Nat → Bool) {n j : Nat} (h : j < n) : (bl_ sg n)[j]? = some (.bool (sg j)) := by
  induction n with
  | zero => omega
  | succ n ih =>
    have hl := bl_len sg n
    rcases Nat.lt_or_ge j n with h1 | h1
    · simp only [bl_]
      rw [List.getElem?_append_left (by omega)]
      exact ih h1
    · obtain rfl : j = n := by omega
      simp only [bl_]
      rw [List.getElem?_append_right (by omega), hl]
      simp
theorem Rw.sw {w0 w : World} {A : Option Addr} {n k : Nat} {xs : Nat → Int} (h : Rw w0 w 54 2 (.slice A n k) n (wl xs n)) : Sw w A n xs := fun hn => by
  rcases h.2 with ⟨h0, h1⟩ | ⟨g, cap, cur, h1, h2, h3, h4⟩
  · rw [h1] at h0; omega
  · cases h1
    have hc : ∀ j u, (wl xs n)[j]? = some u → w.cell? ((⟨g, 0, none⟩ : Addr).add j) = some u := World.ownsRow.cells (g := g) h rfl
    refine ⟨g, 0, rfl, fun j hj => ?_⟩
    obtain ⟨a, b⟩ := wl_get xs hj
    have a' := hc _ _ a
    have b' := hc _ _ b
    rw [add_at] at a' b'
    exact ⟨a', by rw [Nat.add_assoc]; exact b'⟩
theorem Rw.sb {w0 w : World} {A : Option Addr} {n k : Nat} {sg : Nat → Bool} (h : Rw w0 w 4 1 (.slice A n k) n (bl_ sg n)) : Sb w A n sg := fun hn => by
  rcases h.2 with ⟨h0, h1⟩ | ⟨g, cap, cur, h1, h2, h3, h4⟩
  · rw [h1] at h0; omega
  · cases h1
    have hc : ∀ j u, (bl_ sg n)[j]? = some u → w.cell? ((⟨g, 0, none⟩ : Addr).add j) = some u := World.ownsRow.cells (g := g) h rfl
    refine ⟨g, 0, rfl, fun j hj => ?_⟩
    have a' := hc _ _ (bl_get sg hj)
    rw [add_at] at a'
    exact a'
/-- The numbers that Sum adds up, and those that squares does. -/
def xsS (L : List It) (j : Nat) : Int := ((L.getD j (0, 0)).2.natAbs : Int)
def sgS (L : List It) (j : Nat) : Bool := decide ((L.getD j (0, 0)).2 < 0)
def xsQ (L : List It) (j : Nat) : Int := (L.getD j (0, 0)).2 * (L.getD j (0, 0)).2
theorem totN_sum {L : List It} (h : InI L) (hn : L.length ≤ 1000000) (i : Nat) (hi : i ≤ L.length) : totN (xsS L) (sgS L) i = (posZ (L.take i), negZ (L.take i), true) := by
  induction i with
  | zero => simp [totN, posZ, negZ]
  | succ i ih =>
    have hil : i < L.length := by omega
    have hp := posZ_le (h.take i)
    have hq := negZ_le (h.take i)
    rw [List.length_take] at hp hq
    have hv := (h.at_ hil).2
    unfold In at hv
    have hx : xsS L i = ((L.getD i (0, 0)).2.natAbs : Int) := rfl
    show totS (totN (xsS L) (sgS L) i) (xsS L i) (sgS L i) = _
    rw [ih (by omega), posZ_next hil, negZ_next hil]
    unfold totS
    by_cases hneg : (L.getD i (0, 0)).2 < 0
    · have hs : sgS L i = true := decide_eq_true hneg
      have h2 : In2 (negZ (L.take i) + xsS L i) := by rw [hx]; exact ⟨by omega, by omega⟩
      have e2 : xsS L i = -(L.getD i (0, 0)).2 := by omega
      rw [hs, if_pos rfl, if_pos hneg, if_pos hneg, fit2_yes h2, fits2_yes h2, e2, Int.add_zero]; rfl
    · have hs : sgS L i = false := decide_eq_false hneg
      have h2 : In2 (posZ (L.take i) + xsS L i) := by rw [hx]; exact ⟨by omega, by omega⟩
      have e2 : xsS L i = (L.getD i (0, 0)).2 := by omega
      rw [hs, if_neg (by decide), if_neg hneg, if_neg hneg, fit2_yes h2, fits2_yes h2, e2, Int.add_zero]; rfl
theorem sqZ_mono {L : List It} (i : Nat) : sqZ (L.take i) ≤ sqZ L := by
  have : sqZ L = sqZ (L.take i) + sqZ (L.drop i) := (congrArg sqZ (List.take_append_drop i L).symm).trans (by unfold sqZ; rw [List.map_append, List.sum_append])
  have := sqZ_nonneg (L.drop i)
  omega
theorem totN_sq {L : List It} (i : Nat) (hi : i ≤ L.length) : (totN (xsQ L) (fun _ => false) i).2.1 = 0 ∧ ((totN (xsQ L) (fun _ => false) i).2.2 = true → (totN (xsQ L) (fun _ => false) i).1 = sqZ (L.take i)) ∧ (fits2 (sqZ L) = true → (totN (xsQ L) (fun _ => false) i).2.2 = true) ∧ ((totN (xsQ L) (fun _ => false) i).2.2 = true → fits2 (sqZ (L.take i)) = true) := by
  induction i with
  | zero => simp [totN, sqZ]; decide
  | succ i ih =>
    have hil : i < L.length := by omega
    obtain ⟨a, b, c, d⟩ := ih (by omega)
    simp only [totN, totS, Bool.false_eq_true, if_false]
    have hnx := sqZ_next hil
    have hm := sqZ_mono (L := L) (i + 1)
    have h0 := sqZ_nonneg (L.take (i + 1))
    generalize totN (xsQ L) (fun _ => false) i = t at *
    refine ⟨a, fun hok => ?_, fun hf => ?_, fun hok => ?_⟩
    · rw [Bool.and_eq_true] at hok
      rw [b hok.1] at hok ⊢
      rw [hnx]
      have h2 : In2 (sqZ (L.take i) + xsQ L i) := (of_decide_eq_true hok.2 : _ ∧ _)
      exact fit2_yes h2
    · have hok := c hf
      rw [hok, b hok, Bool.true_and]
      have h2 : In2 (sqZ L) := (of_decide_eq_true hf : _ ∧ _)
      rw [show sqZ (L.take i) + xsQ L i = sqZ (L.take (i + 1)) from hnx.symm]
      exact fits2_yes ⟨h0, by have := h2.2; omega⟩
    · rw [Bool.and_eq_true] at hok
      rw [b hok.1] at hok
      rw [hnx]
      exact hok.2

set_option maxHeartbeats 16000000 in
set_option maxRecDepth 100000 in
theorem rsum_up (n k : Nat) (A : Option Addr) (L : List It) (hn : n ≤ 100000) (hI : InI L) (w : World) (hS : Sl w A n L) :
    Calls Try.prog 16 #[.slice A n k] w fun e w' => e = got (fit (smZ L)) (fits (smZ L)) ∧ Up w w' := by
  have HL := Lib.hid hS.1
  have HS := Lib.hid hS
  have HI := Lib.hid hI
  have hpl := posZ_le hI
  have hql := negZ_le hI
  have hln := hS.1
  have hP2 : In2 (posZ L) := ⟨hpl.1, by omega⟩
  have hQ2 : In2 (negZ L) := ⟨hql.1, by omega⟩
  have KN := Lib.hid (fun W => rnumber_up (posZ L) (negZ L) hP2 hQ2 W)
  rw [← smZ_eq] at KN
  have HTt := Lib.hid (totN_sum hI (by omega) n (by omega))
  rw [List.take_of_length_le (show L.length ≤ n by omega)] at HTt
  have HXs : Hid (∀ j, j < n → In2 (xsS L j)) := Lib.hid (fun j hj => by
    have := (hI.at_ (show j < L.length by omega)).2
    unfold In at this
    unfold xsS
    exact ⟨by omega, by omega⟩)
  generalize hx : fit (smZ L) = fx
  generalize hy : fits (smZ L) = fy at *
  have HFX : Hid (fy = true → fx = smZ L) := Lib.hid (fun h => by rw [← hx]; unfold fit; rw [hy, h]; rfl)
  have HFN : Hid (fy = false → fx = 0) := Lib.hid (fun h => by rw [← hx]; unfold fit; rw [hy, h]; rfl)
  clear hS hI hpl hql hln hP2 hQ2 hx hy
  go_enter Try.func16, Try.ntmps16
  go_wp2_with fail
  go_loopw [4, 5, 15] (fun s r t wr => ∃ (i : Nat) (A1 A2 : Option Addr) (k1 k2 : Nat), s = .slice A1 i k1 ∧ r = .slice A2 i k2 ∧ t = .int .i64 i ∧ i ≤ n ∧ Rw w wr 54 2 (.slice A1 i k1) i (wl (xsS L) i) ∧ Rw w wr 4 1 (.slice A2 i k2) i (bl_ (sgS L) i) ∧ Apt A1 A2 ∧ Up w wr) (fun _ _ t _ => n - (intOf t).toNat)
  case atStart => exact ⟨0, none, none, 0, 0, rfl, rfl, rfl, Nat.zero_le _, Rw.nil _ _ _ _, Rw.nil _ _ _ _, Apt.none_l, Up.refl _⟩
  case round =>
    obtain ⟨i, A1, A2, k1, k2, rfl, rfl, rfl, hin, hA, hB, hap, hU⟩ := hrel
    by_cases hi : i < n
    · obtain ⟨bb, o, rfl, d0, d1⟩ := (HS.out.up hU).at_ hi
      have hil : i < L.length := by rw [HL.out]; exact hi
      obtain ⟨ip, iv⟩ := HI.out.at_ hil
      have HNA : Hid (wl (xsS L) (i + 1) = wl (xsS L) i ++ [.int .u64 (hiZ (xsS L i)), .int .u64 (loZ (xsS L i))]) := Lib.hid rfl
      have HNB : Hid (bl_ (sgS L) (i + 1) = bl_ (sgS L) i ++ [.bool (sgS L i)]) := Lib.hid rfl
      have hxd : xsS L i = ((L.getD i (0, 0)).2.natAbs : Int) := rfl
      have hsd : sgS L i = decide ((L.getD i (0, 0)).2 < 0) := rfl
      generalize (L.getD i (0, 0)).1 = p0 at *
      generalize (L.getD i (0, 0)).2 = p1 at *
      have KA := Lib.hid (fun W => rabs_any p1 iv W)
      have KO := Lib.hid (fun W => rof_up (p1.natAbs : Int) W)
      unfold In at iv
      rw [← hxd] at KA KO
      have h0 : hiZ (xsS L i) = 0 := by rw [hxd]; unfold hiZ; omega
      have h1 : loZ (xsS L i) = xsS L i := by rw [hxd]; unfold loZ; omega
      have KO2 : Hid (∀ W : World, Calls Try.prog 32 #[.int .u64 (xsS L i)] W fun e w' => e = .returned (.agg #[.int .u64 (hiZ (xsS L i)), .int .u64 (loZ (xsS L i))]) ∧ Up W w') := Lib.hid (fun W => by rw [h0, h1]; exact KO.out W)
      clear KO
      have KO := KO2
      clear KO2 h0 h1 hxd
      generalize xsS L i = x at *
      generalize sgS L i = s at *
      have hsd2 : decide (p1 < 0) = s := hsd.symm
      clear hsd
      have f2 : (i : Int) < n := by omega
      have f3 : (0 : Int) ≤ i := by omega
      have HG00 : Hid (Sg w (wr.alloc (.cells #[.int .i64 p0, .int .i64 p1] 40)) wr.heap.size p0 p1 A1 A2 i i k1 k2 (wl (xsS L) i) (bl_ (sgS L) i)) := Lib.hid
        ⟨hA.of_up ((Up.refl wr).alloc _ _), hB.of_up ((Up.refl wr).alloc _ _), hap, hU.alloc _ _, Blk.new _ _ _⟩
      have HQA : Hid (∀ g o, wr.heap.size ≤ g → A1 ≠ some ⟨g, o, none⟩) := Lib.hid (fun g o hg he => by have := hA.lt g o he; omega)
      have HQB : Hid (∀ g o, wr.heap.size ≤ g → A2 ≠ some ⟨g, o, none⟩) := Lib.hid (fun g o hg he => by have := hB.lt g o he; omega)
      generalize wl (xsS L) i = cA at *
      generalize bl_ (sgS L) i = cB at *
      clear hA hB hap ip iv
      go_upto_region 6 with fail
      have HG0 : Hid (Sg w (wr.alloc (.cells #[.int .i64 p0, .int .i64 p1] 40)).drew wr.heap.size p0 p1 A1 A2 i i k1 k2 cA cB) := Lib.hid (HG00.out.keep (Up.refl _).drew)
      clear HG00 d0 d1 hU
      generalize wr.alloc (.cells #[.int .i64 p0, .int .i64 p1] 40) = wi at *
      generalize wr.heap.size = q at *
      refine wp_region_held_drew (S := fun w' => Blk w' q 40 #[.int .i64 p0, .int .i64 p1] ∧ w'.cell? ⟨q, 1, none⟩ = some (.int .i64 p1)) (by kernel_rfl) ?hB1 (fun hHeld => ?_)
      case hB1 => exact HG0.out.s
      refine wpAnyH_take (i := 0) (oi := ⟨_, _, _, _, _, _⟩) (v := ?v2) rfl (by kernel_rfl) (by kernel_rfl) (by kernel_rfl) (fun _ _ _ h => h) (Or.inl ⟨by rfl, ?hy2⟩) (by assumption) ?_
      case hy2 => (intro w hSw; (try dsimp only at hSw); go_simp; (try (with_reducible rfl)))
      (try simp only [Act.put, List.setIfInBounds_toArray, List.set_cons_zero, List.set_cons_succ])
      refine wpAnyH_take (i := 1) (oi := ⟨_, _, _, _, _, _⟩) (v := ?v3) rfl (by kernel_rfl) (by kernel_rfl) (by kernel_rfl) (fun _ _ _ h => h) (Or.inl ⟨by rfl, ?hy3⟩) (by assumption) ?_
      case hy3 => (intro w hSw; (try dsimp only at hSw); go_simp; (try (with_reducible rfl)))
      (try simp only [Act.put, List.setIfInBounds_toArray, List.set_cons_zero, List.set_cons_succ])
      refine wpAnyH_take (i := 2) (oi := ⟨_, _, _, _, _, _⟩) (v := ?v4) rfl (by kernel_rfl) (by kernel_rfl) (by kernel_rfl) (fun _ _ _ h => h) (Or.inl ⟨by rfl, ?hy4⟩) (by assumption) ?_
      case hy4 => (intro w hSw; (try dsimp only at hSw); go_simp; (try (with_reducible rfl)))
      (try simp only [Act.put, List.setIfInBounds_toArray, List.set_cons_zero, List.set_cons_succ])
      refine wpAnyH_take (i := 7) (oi := ⟨_, _, _, _, _, _⟩) (v := ?v5) rfl (by kernel_rfl) (by kernel_rfl) (by kernel_rfl) (fun _ _ _ h => h) (Or.inl ⟨by rfl, ?hy5⟩) (by assumption) ?_
      case hy5 => (intro w hSw; (try dsimp only at hSw); go_simp; (try (with_reducible rfl)))
      (try simp only [Act.put, List.setIfInBounds_toArray, List.set_cons_zero, List.set_cons_succ])
      refine wpAnyH_take (i := 8) (oi := ⟨_, _, _, _, _, _⟩) (v := ?v6) rfl (by kernel_rfl) (by kernel_rfl) (by kernel_rfl) (fun _ _ _ h => h) (Or.inl ⟨by rfl, ?hy6⟩) (by assumption) ?_
      case hy6 => (intro w hSw; (try dsimp only at hSw); go_simp; (try (with_reducible rfl)))
      (try simp only [Act.put, List.setIfInBounds_toArray, List.set_cons_zero, List.set_cons_succ])
      refine wpAnyH_take (i := 9) (oi := ⟨_, _, _, _, _, _⟩) (v := ?v7) rfl (by kernel_rfl) (by kernel_rfl) (by kernel_rfl) (fun _ _ _ h => h) (Or.inl ⟨by rfl, ?hy7⟩) (by assumption) ?_
      case hy7 => (intro w hSw; (try dsimp only at hSw); go_simp; (try (with_reducible rfl)))
      (try simp only [Act.put, List.setIfInBounds_toArray, List.set_cons_zero, List.set_cons_succ])
      refine wpAnyH_take (i := 10) (oi := ⟨_, _, _, _, _, _⟩) (v := ?v8) rfl (by kernel_rfl) (by kernel_rfl) (by kernel_rfl) (fun _ _ _ h => h) (Or.inl ⟨by rfl, ?hy8⟩) (by assumption) ?_
      case hy8 => (intro w hSw; (try dsimp only at hSw); go_simp; (try (with_reducible rfl)))
      (try simp only [Act.put, List.setIfInBounds_toArray, List.set_cons_zero, List.set_cons_succ])
      refine wpAnyH_ready (rs := [3, 11]) (by kernel_rfl) (by simp) ?_
      refine AllReadyH.cons (o := ⟨_, _, _, _, _, _⟩) rfl (fun K hK => ?_) (AllReadyH.cons (o := ⟨_, _, _, _, _, _⟩) rfl (fun K hK => ?_) (AllReadyH.nil))
      · go_simp
        (go_at_call 33; (with_reducible refine (KA.out _).mono ?_); rintro e w' ⟨rfl, rfl⟩)
        (try go_wp2_with fail)
        refine hK.out _ _ ?hB9 (fun hHeld => ?_)
        case hB9 => exact hHeld
        clear hK K
        (try simp only [Act.put, List.setIfInBounds_toArray, List.set_cons_zero, List.set_cons_succ])
        refine wpAnyH_ready (rs := [4, 11]) (by kernel_rfl) (by simp) ?_
        refine AllReadyH.cons (o := ⟨_, _, _, _, _, _⟩) rfl (fun K hK => ?_) (AllReadyH.cons (o := ⟨_, _, _, _, _, _⟩) rfl (fun K hK => ?_) (AllReadyH.nil))
        · go_simp
          go_at_call 32
          (with_reducible refine (KO.out _).mono ?_)
          rintro e v2 ⟨rfl, hu2⟩
          have HG2 := Lib.hid (HG0.out.keep hu2)
          clear hu2
          (try go_wp2_with fail)
          refine hK.out _ _ ?hB10 (fun hHeld => ?_)
          case hB10 => exact HG2.out.s
          clear hK K
          (try simp only [Act.put, List.setIfInBounds_toArray, List.set_cons_zero, List.set_cons_succ])
          refine wpAnyH_ready (rs := [5, 11]) (by kernel_rfl) (by simp) ?_
          refine AllReadyH.cons (o := ⟨_, _, _, _, _, _⟩) rfl (fun K hK => ?_) (AllReadyH.cons (o := ⟨_, _, _, _, _, _⟩) rfl (fun K hK => ?_) (AllReadyH.nil))
          · go_simp
            refine hK.out _ _ ?hB11 (fun hHeld => ?_)
            case hB11 => exact (HG2.out.keep ((Up.refl _).alloc _ _)).s
            clear hK K
            (try simp only [Act.put, List.setIfInBounds_toArray, List.set_cons_zero, List.set_cons_succ])
            have HG3 : Hid (Sg w ((v2.alloc (.cells #[.int .u64 (hiZ x), .int .u64 (loZ x)] 54))) q p0 p1 A1 A2 i i k1 k2 cA cB) := Lib.hid (HG2.out.keep ((Up.refl _).alloc _ _))
            have RAn3 : Blk (v2.alloc (.cells #[.int .u64 (hiZ x), .int .u64 (loZ x)] 54)) (v2.heap.size) 54 #[.int .u64 (hiZ x), .int .u64 (loZ x)] := blk_newAt (by simp [go_sem])
            refine wpAnyH_ready (rs := [6, 11]) (by kernel_rfl) (by simp) ?_
            refine AllReadyH.cons (o := ⟨_, _, _, _, _, _⟩) rfl (fun K hK => ?_) (AllReadyH.cons (o := ⟨_, _, _, _, _, _⟩) rfl (fun K hK => ?_) (AllReadyH.nil))
            · obtain ⟨A3, k3, v4, hr4, hA3, hB3, hap3, hu3, hk3⟩ := appendQ 65 54 65 _ 2 16 Try.underlying65 wide_info rfl (by omega) w (v2.alloc (.cells #[.int .u64 (hiZ x), .int .u64 (loZ x)] 54)) A1 i k1 cA HG3.out.a HG3.out.up (v2.heap.size) [.int .u64 (hiZ x), .int .u64 (loZ x)] rfl RAn3 (by intro z hz; simp at hz; rcases hz with rfl | rfl <;> rfl) (by omega) _ 1 A2 i k2 cB HG3.out.b HG3.out.ap
              have hq4 := hk3 _ _ _ HG3.out.it (fun o => HQA.out q o (Nat.le_refl _))
              refine step_append_run rfl (.tmp 19) (.tmp 24) _ rfl _ _ rfl rfl _ _ hr4 ?_
              refine hK.out _ _ ?hB12 (fun hHeld => ?_)
              case hB12 => exact blk_s hq4
              clear hK K
              (try simp only [Act.put, List.setIfInBounds_toArray, List.set_cons_zero, List.set_cons_succ])
              refine wpAnyH_ready (rs := [11]) (by kernel_rfl) (by simp) ?_
              refine AllReadyH.cons (o := ⟨_, _, _, _, _, _⟩) rfl (fun K hK => ?_) (AllReadyH.nil)
              go_simp
              refine hK.out _ _ ?hB13 (fun hHeld => ?_)
              case hB13 => exact blk_s (Blk.alloc hq4 _)
              clear hK K
              (try simp only [Act.put, List.setIfInBounds_toArray, List.set_cons_zero, List.set_cons_succ])
              have hA5 := hA3.of_up ((Up.refl v4).alloc #[.bool s] 4)
              have hB5 := hB3.of_up ((Up.refl v4).alloc #[.bool s] 4)
              have hu5 := hu3.alloc #[.bool s] 4
              have hq5 := Blk.alloc hq4 (.cells #[.bool s] 4)
              have RBn5 : Blk (v4.alloc (.cells #[.bool s] 4)) (v4.heap.size) 4 #[.bool s] := blk_newAt (by simp [go_sem])
              refine wpAnyH_ready (rs := [12]) (by kernel_rfl) (by simp) ?_
              refine AllReadyH.cons (o := ⟨_, _, _, _, _, _⟩) rfl (fun K hK => ?_) (AllReadyH.nil)
              obtain ⟨A4, k4, v6, hr6, hB4, hA4, hap4, hu4, hk4⟩ := appendQ 66 4 66 _ 1 1 Try.underlying66 bool_info rfl (by omega) w (v4.alloc (.cells #[.bool s] 4)) A2 i k2 cB hB5 hu5 (v4.heap.size) [.bool s] rfl RBn5 (by intro z hz; simp at hz; subst hz; rfl) (by omega) _ 2 A3 (i + 1) k3 _ hA5 hap3.symm
              have hq6 := hk4 _ _ _ hq5 (fun o => HQB.out q o (Nat.le_refl _))
              refine step_append_run rfl (.tmp 26) (.tmp 30) _ rfl _ _ rfl rfl _ _ hr6 ?_
              refine hK.out _ _ ?hB14 (fun hHeld => ?_)
              case hB14 => exact blk_s hq6
              clear hK K
              (try simp only [Act.put, List.setIfInBounds_toArray, List.set_cons_zero, List.set_cons_succ])
              refine wpAnyH_take (i := 13) (oi := ⟨_, _, _, _, _, _⟩) (v := ?v15) rfl (by kernel_rfl) (by kernel_rfl) (by kernel_rfl) (fun _ _ _ h => h) (Or.inl ⟨by rfl, ?hy15⟩) (by assumption) ?_
              case hy15 => (intro w hSw; (try dsimp only at hSw); go_simp; (try (with_reducible rfl)))
              (try simp only [Act.put, List.setIfInBounds_toArray, List.set_cons_zero, List.set_cons_succ])
              refine wpAnyH_take (i := 14) (oi := ⟨_, _, _, _, _, _⟩) (v := ?v16) rfl (by kernel_rfl) (by kernel_rfl) (by kernel_rfl) (fun _ _ _ h => h) (Or.inl ⟨by rfl, ?hy16⟩) (by assumption) ?_
              case hy16 => (intro w hSw; (try dsimp only at hSw); go_simp; (try (with_reducible rfl)))
              (try simp only [Act.put, List.setIfInBounds_toArray, List.set_cons_zero, List.set_cons_succ])
              refine wpAnyH_done (by kernel_rfl) ?_ _
              go_wp2_with fail
              go_roundw
              case rel => exact ⟨i + 1, A3, A4, k3, k4, rfl, rfl, by go_num, by omega, by rw [HNA.out]; exact hA4, by rw [HNB.out]; exact hB4, hap4.symm, hu4⟩
              case measure => simp [intOf]; omega
            · go_simp
              refine hK.out _ _ ?hB17 (fun hHeld => ?_)
              case hB17 => exact (HG3.out.keep ((Up.refl _).alloc _ _)).s
              clear hK K
              (try simp only [Act.put, List.setIfInBounds_toArray, List.set_cons_zero, List.set_cons_succ])
              have lb7 : q ≤ v2.heap.size + 1 := by (have hlt := Blk.lt HG3.out.it); first | omega | (simp at hlt; omega)
              have HG7 : Hid (Sg w (((v2.alloc (.cells #[.int .u64 (hiZ x), .int .u64 (loZ x)] 54)).alloc (.cells #[.bool s] 4))) q p0 p1 A1 A2 i i k1 k2 cA cB) := Lib.hid (HG3.out.keep ((Up.refl _).alloc _ _))
              have RA7 := Blk.alloc RAn3 (.cells #[.bool s] 4)
              have RBn7 : Blk ((v2.alloc (.cells #[.int .u64 (hiZ x), .int .u64 (loZ x)] 54)).alloc (.cells #[.bool s] 4)) (v2.heap.size + 1) 4 #[.bool s] := blk_newAt (by simp [go_sem])
              refine wpAnyH_ready (rs := [6]) (by kernel_rfl) (by simp) ?_
              refine AllReadyH.cons (o := ⟨_, _, _, _, _, _⟩) rfl (fun K hK => ?_) (AllReadyH.nil)
              obtain ⟨A3, k3, v8, hr8, hA3, hB3, hap3, hu3, hk3⟩ := appendQ 65 54 65 _ 2 16 Try.underlying65 wide_info rfl (by omega) w ((v2.alloc (.cells #[.int .u64 (hiZ x), .int .u64 (loZ x)] 54)).alloc (.cells #[.bool s] 4)) A1 i k1 cA HG7.out.a HG7.out.up (v2.heap.size) [.int .u64 (hiZ x), .int .u64 (loZ x)] rfl RA7 (by intro z hz; simp at hz; rcases hz with rfl | rfl <;> rfl) (by omega) _ 1 A2 i k2 cB HG7.out.b HG7.out.ap
              have hq8 := hk3 _ _ _ HG7.out.it (fun o => HQA.out q o (Nat.le_refl _))
              have RB8 := hk3 _ _ _ RBn7 (fun o => HQA.out _ o lb7)
              refine step_append_run rfl (.tmp 19) (.tmp 24) _ rfl _ _ rfl rfl _ _ hr8 ?_
              refine hK.out _ _ ?hB18 (fun hHeld => ?_)
              case hB18 => exact blk_s hq8
              clear hK K
              (try simp only [Act.put, List.setIfInBounds_toArray, List.set_cons_zero, List.set_cons_succ])
              refine wpAnyH_ready (rs := [12]) (by kernel_rfl) (by simp) ?_
              refine AllReadyH.cons (o := ⟨_, _, _, _, _, _⟩) rfl (fun K hK => ?_) (AllReadyH.nil)
              obtain ⟨A4, k4, v9, hr9, hB4, hA4, hap4, hu4, hk4⟩ := appendQ 66 4 66 _ 1 1 Try.underlying66 bool_info rfl (by omega) w v8 A2 i k2 cB hB3 hu3 (v2.heap.size + 1) [.bool s] rfl RB8 (by intro z hz; simp at hz; subst hz; rfl) (by omega) _ 2 A3 (i + 1) k3 _ hA3 hap3.symm
              have hq9 := hk4 _ _ _ hq8 (fun o => HQB.out q o (Nat.le_refl _))
              refine step_append_run rfl (.tmp 26) (.tmp 30) _ rfl _ _ rfl rfl _ _ hr9 ?_
              refine hK.out _ _ ?hB19 (fun hHeld => ?_)
              case hB19 => exact blk_s hq9
              clear hK K
              (try simp only [Act.put, List.setIfInBounds_toArray, List.set_cons_zero, List.set_cons_succ])
              refine wpAnyH_take (i := 13) (oi := ⟨_, _, _, _, _, _⟩) (v := ?v20) rfl (by kernel_rfl) (by kernel_rfl) (by kernel_rfl) (fun _ _ _ h => h) (Or.inl ⟨by rfl, ?hy20⟩) (by assumption) ?_
              case hy20 => (intro w hSw; (try dsimp only at hSw); go_simp; (try (with_reducible rfl)))
              (try simp only [Act.put, List.setIfInBounds_toArray, List.set_cons_zero, List.set_cons_succ])
              refine wpAnyH_take (i := 14) (oi := ⟨_, _, _, _, _, _⟩) (v := ?v21) rfl (by kernel_rfl) (by kernel_rfl) (by kernel_rfl) (fun _ _ _ h => h) (Or.inl ⟨by rfl, ?hy21⟩) (by assumption) ?_
              case hy21 => (intro w hSw; (try dsimp only at hSw); go_simp; (try (with_reducible rfl)))
              (try simp only [Act.put, List.setIfInBounds_toArray, List.set_cons_zero, List.set_cons_succ])
              refine wpAnyH_done (by kernel_rfl) ?_ _
              go_wp2_with fail
              go_roundw
              case rel => exact ⟨i + 1, A3, A4, k3, k4, rfl, rfl, by go_num, by omega, by rw [HNA.out]; exact hA4, by rw [HNB.out]; exact hB4, hap4.symm, hu4⟩
              case measure => simp [intOf]; omega
          · go_simp
            refine hK.out _ _ ?hB22 (fun hHeld => ?_)
            case hB22 => exact (HG2.out.keep ((Up.refl _).alloc _ _)).s
            clear hK K
            (try simp only [Act.put, List.setIfInBounds_toArray, List.set_cons_zero, List.set_cons_succ])
            have lb10 : q ≤ v2.heap.size := by (have hlt := Blk.lt HG2.out.it); first | omega | (simp at hlt; omega)
            have HG10 : Hid (Sg w ((v2.alloc (.cells #[.bool s] 4))) q p0 p1 A1 A2 i i k1 k2 cA cB) := Lib.hid (HG2.out.keep ((Up.refl _).alloc _ _))
            have RBn10 : Blk (v2.alloc (.cells #[.bool s] 4)) (v2.heap.size) 4 #[.bool s] := blk_newAt (by simp [go_sem])
            refine wpAnyH_ready (rs := [5]) (by kernel_rfl) (by simp) ?_
            refine AllReadyH.cons (o := ⟨_, _, _, _, _, _⟩) rfl (fun K hK => ?_) (AllReadyH.nil)
            go_simp
            refine hK.out _ _ ?hB23 (fun hHeld => ?_)
            case hB23 => exact (HG10.out.keep ((Up.refl _).alloc _ _)).s
            clear hK K
            (try simp only [Act.put, List.setIfInBounds_toArray, List.set_cons_zero, List.set_cons_succ])
            have HG11 : Hid (Sg w (((v2.alloc (.cells #[.bool s] 4)).alloc (.cells #[.int .u64 (hiZ x), .int .u64 (loZ x)] 54))) q p0 p1 A1 A2 i i k1 k2 cA cB) := Lib.hid (HG10.out.keep ((Up.refl _).alloc _ _))
            have RB11 := Blk.alloc RBn10 (.cells #[.int .u64 (hiZ x), .int .u64 (loZ x)] 54)
            have RAn11 : Blk ((v2.alloc (.cells #[.bool s] 4)).alloc (.cells #[.int .u64 (hiZ x), .int .u64 (loZ x)] 54)) (v2.heap.size + 1) 54 #[.int .u64 (hiZ x), .int .u64 (loZ x)] := blk_newAt (by simp [go_sem])
            refine wpAnyH_ready (rs := [6]) (by kernel_rfl) (by simp) ?_
            refine AllReadyH.cons (o := ⟨_, _, _, _, _, _⟩) rfl (fun K hK => ?_) (AllReadyH.nil)
            obtain ⟨A3, k3, v12, hr12, hA3, hB3, hap3, hu3, hk3⟩ := appendQ 65 54 65 _ 2 16 Try.underlying65 wide_info rfl (by omega) w ((v2.alloc (.cells #[.bool s] 4)).alloc (.cells #[.int .u64 (hiZ x), .int .u64 (loZ x)] 54)) A1 i k1 cA HG11.out.a HG11.out.up (v2.heap.size + 1) [.int .u64 (hiZ x), .int .u64 (loZ x)] rfl RAn11 (by intro z hz; simp at hz; rcases hz with rfl | rfl <;> rfl) (by omega) _ 1 A2 i k2 cB HG11.out.b HG11.out.ap
            have hq12 := hk3 _ _ _ HG11.out.it (fun o => HQA.out q o (Nat.le_refl _))
            have RB12 := hk3 _ _ _ RB11 (fun o => HQA.out _ o lb10)
            refine step_append_run rfl (.tmp 19) (.tmp 24) _ rfl _ _ rfl rfl _ _ hr12 ?_
            refine hK.out _ _ ?hB24 (fun hHeld => ?_)
            case hB24 => exact blk_s hq12
            clear hK K
            (try simp only [Act.put, List.setIfInBounds_toArray, List.set_cons_zero, List.set_cons_succ])
            refine wpAnyH_ready (rs := [12]) (by kernel_rfl) (by simp) ?_
            refine AllReadyH.cons (o := ⟨_, _, _, _, _, _⟩) rfl (fun K hK => ?_) (AllReadyH.nil)
            obtain ⟨A4, k4, v13, hr13, hB4, hA4, hap4, hu4, hk4⟩ := appendQ 66 4 66 _ 1 1 Try.underlying66 bool_info rfl (by omega) w v12 A2 i k2 cB hB3 hu3 (v2.heap.size) [.bool s] rfl RB12 (by intro z hz; simp at hz; subst hz; rfl) (by omega) _ 2 A3 (i + 1) k3 _ hA3 hap3.symm
            have hq13 := hk4 _ _ _ hq12 (fun o => HQB.out q o (Nat.le_refl _))
            refine step_append_run rfl (.tmp 26) (.tmp 30) _ rfl _ _ rfl rfl _ _ hr13 ?_
            refine hK.out _ _ ?hB25 (fun hHeld => ?_)
            case hB25 => exact blk_s hq13
            clear hK K
            (try simp only [Act.put, List.setIfInBounds_toArray, List.set_cons_zero, List.set_cons_succ])
            refine wpAnyH_take (i := 13) (oi := ⟨_, _, _, _, _, _⟩) (v := ?v26) rfl (by kernel_rfl) (by kernel_rfl) (by kernel_rfl) (fun _ _ _ h => h) (Or.inl ⟨by rfl, ?hy26⟩) (by assumption) ?_
            case hy26 => (intro w hSw; (try dsimp only at hSw); go_simp; (try (with_reducible rfl)))
            (try simp only [Act.put, List.setIfInBounds_toArray, List.set_cons_zero, List.set_cons_succ])
            refine wpAnyH_take (i := 14) (oi := ⟨_, _, _, _, _, _⟩) (v := ?v27) rfl (by kernel_rfl) (by kernel_rfl) (by kernel_rfl) (fun _ _ _ h => h) (Or.inl ⟨by rfl, ?hy27⟩) (by assumption) ?_
            case hy27 => (intro w hSw; (try dsimp only at hSw); go_simp; (try (with_reducible rfl)))
            (try simp only [Act.put, List.setIfInBounds_toArray, List.set_cons_zero, List.set_cons_succ])
            refine wpAnyH_done (by kernel_rfl) ?_ _
            go_wp2_with fail
            go_roundw
            case rel => exact ⟨i + 1, A3, A4, k3, k4, rfl, rfl, by go_num, by omega, by rw [HNA.out]; exact hA4, by rw [HNB.out]; exact hB4, hap4.symm, hu4⟩
            case measure => simp [intOf]; omega
        · go_simp
          refine hK.out _ _ ?hB28 (fun hHeld => ?_)
          case hB28 => exact (HG0.out.keep ((Up.refl _).alloc _ _)).s
          clear hK K
          (try simp only [Act.put, List.setIfInBounds_toArray, List.set_cons_zero, List.set_cons_succ])
          have lb14 : q ≤ wi.heap.size := by (have hlt := Blk.lt HG0.out.it); first | omega | (simp at hlt; omega)
          have HG14 : Hid (Sg w ((wi.drew.alloc (.cells #[.bool s] 4))) q p0 p1 A1 A2 i i k1 k2 cA cB) := Lib.hid (HG0.out.keep ((Up.refl _).alloc _ _))
          have RBn14 : Blk (wi.drew.alloc (.cells #[.bool s] 4)) (wi.heap.size) 4 #[.bool s] := blk_newAt (by simp [go_sem])
          refine wpAnyH_ready (rs := [4]) (by kernel_rfl) (by simp) ?_
          refine AllReadyH.cons (o := ⟨_, _, _, _, _, _⟩) rfl (fun K hK => ?_) (AllReadyH.nil)
          go_simp
          go_at_call 32
          (with_reducible refine (KO.out _).mono ?_)
          rintro e v15 ⟨rfl, hu15⟩
          have HG15 := Lib.hid (HG14.out.keep hu15)
          have RB15 := Blk.up RBn14 hu15
          clear hu15
          (try go_wp2_with fail)
          refine hK.out _ _ ?hB29 (fun hHeld => ?_)
          case hB29 => exact HG15.out.s
          clear hK K
          (try simp only [Act.put, List.setIfInBounds_toArray, List.set_cons_zero, List.set_cons_succ])
          refine wpAnyH_ready (rs := [5]) (by kernel_rfl) (by simp) ?_
          refine AllReadyH.cons (o := ⟨_, _, _, _, _, _⟩) rfl (fun K hK => ?_) (AllReadyH.nil)
          go_simp
          refine hK.out _ _ ?hB30 (fun hHeld => ?_)
          case hB30 => exact (HG15.out.keep ((Up.refl _).alloc _ _)).s
          clear hK K
          (try simp only [Act.put, List.setIfInBounds_toArray, List.set_cons_zero, List.set_cons_succ])
          have HG16 : Hid (Sg w ((v15.alloc (.cells #[.int .u64 (hiZ x), .int .u64 (loZ x)] 54))) q p0 p1 A1 A2 i i k1 k2 cA cB) := Lib.hid (HG15.out.keep ((Up.refl _).alloc _ _))
          have RB16 := Blk.alloc RB15 (.cells #[.int .u64 (hiZ x), .int .u64 (loZ x)] 54)
          have RAn16 : Blk (v15.alloc (.cells #[.int .u64 (hiZ x), .int .u64 (loZ x)] 54)) (v15.heap.size) 54 #[.int .u64 (hiZ x), .int .u64 (loZ x)] := blk_newAt (by simp [go_sem])
          refine wpAnyH_ready (rs := [6]) (by kernel_rfl) (by simp) ?_
          refine AllReadyH.cons (o := ⟨_, _, _, _, _, _⟩) rfl (fun K hK => ?_) (AllReadyH.nil)
          obtain ⟨A3, k3, v17, hr17, hA3, hB3, hap3, hu3, hk3⟩ := appendQ 65 54 65 _ 2 16 Try.underlying65 wide_info rfl (by omega) w (v15.alloc (.cells #[.int .u64 (hiZ x), .int .u64 (loZ x)] 54)) A1 i k1 cA HG16.out.a HG16.out.up (v15.heap.size) [.int .u64 (hiZ x), .int .u64 (loZ x)] rfl RAn16 (by intro z hz; simp at hz; rcases hz with rfl | rfl <;> rfl) (by omega) _ 1 A2 i k2 cB HG16.out.b HG16.out.ap
          have hq17 := hk3 _ _ _ HG16.out.it (fun o => HQA.out q o (Nat.le_refl _))
          have RB17 := hk3 _ _ _ RB16 (fun o => HQA.out _ o lb14)
          refine step_append_run rfl (.tmp 19) (.tmp 24) _ rfl _ _ rfl rfl _ _ hr17 ?_
          refine hK.out _ _ ?hB31 (fun hHeld => ?_)
          case hB31 => exact blk_s hq17
          clear hK K
          (try simp only [Act.put, List.setIfInBounds_toArray, List.set_cons_zero, List.set_cons_succ])
          refine wpAnyH_ready (rs := [12]) (by kernel_rfl) (by simp) ?_
          refine AllReadyH.cons (o := ⟨_, _, _, _, _, _⟩) rfl (fun K hK => ?_) (AllReadyH.nil)
          obtain ⟨A4, k4, v18, hr18, hB4, hA4, hap4, hu4, hk4⟩ := appendQ 66 4 66 _ 1 1 Try.underlying66 bool_info rfl (by omega) w v17 A2 i k2 cB hB3 hu3 (wi.heap.size) [.bool s] rfl RB17 (by intro z hz; simp at hz; subst hz; rfl) (by omega) _ 2 A3 (i + 1) k3 _ hA3 hap3.symm
          have hq18 := hk4 _ _ _ hq17 (fun o => HQB.out q o (Nat.le_refl _))
          refine step_append_run rfl (.tmp 26) (.tmp 30) _ rfl _ _ rfl rfl _ _ hr18 ?_
          refine hK.out _ _ ?hB32 (fun hHeld => ?_)
          case hB32 => exact blk_s hq18
          clear hK K
          (try simp only [Act.put, List.setIfInBounds_toArray, List.set_cons_zero, List.set_cons_succ])
          refine wpAnyH_take (i := 13) (oi := ⟨_, _, _, _, _, _⟩) (v := ?v33) rfl (by kernel_rfl) (by kernel_rfl) (by kernel_rfl) (fun _ _ _ h => h) (Or.inl ⟨by rfl, ?hy33⟩) (by assumption) ?_
          case hy33 => (intro w hSw; (try dsimp only at hSw); go_simp; (try (with_reducible rfl)))
          (try simp only [Act.put, List.setIfInBounds_toArray, List.set_cons_zero, List.set_cons_succ])
          refine wpAnyH_take (i := 14) (oi := ⟨_, _, _, _, _, _⟩) (v := ?v34) rfl (by kernel_rfl) (by kernel_rfl) (by kernel_rfl) (fun _ _ _ h => h) (Or.inl ⟨by rfl, ?hy34⟩) (by assumption) ?_
          case hy34 => (intro w hSw; (try dsimp only at hSw); go_simp; (try (with_reducible rfl)))
          (try simp only [Act.put, List.setIfInBounds_toArray, List.set_cons_zero, List.set_cons_succ])
          refine wpAnyH_done (by kernel_rfl) ?_ _
          go_wp2_with fail
          go_roundw
          case rel => exact ⟨i + 1, A3, A4, k3, k4, rfl, rfl, by go_num, by omega, by rw [HNA.out]; exact hA4, by rw [HNB.out]; exact hB4, hap4.symm, hu4⟩
          case measure => simp [intOf]; omega
      · go_simp
        refine hK.out _ _ ?hB35 (fun hHeld => ?_)
        case hB35 => exact (HG0.out.keep ((Up.refl _).alloc _ _)).s
        clear hK K
        (try simp only [Act.put, List.setIfInBounds_toArray, List.set_cons_zero, List.set_cons_succ])
        have lb19 : q ≤ wi.heap.size := by (have hlt := Blk.lt HG0.out.it); first | omega | (simp at hlt; omega)
        have HG19 : Hid (Sg w ((wi.drew.alloc (.cells #[.bool s] 4))) q p0 p1 A1 A2 i i k1 k2 cA cB) := Lib.hid (HG0.out.keep ((Up.refl _).alloc _ _))
        have RBn19 : Blk (wi.drew.alloc (.cells #[.bool s] 4)) (wi.heap.size) 4 #[.bool s] := blk_newAt (by simp [go_sem])
        refine wpAnyH_ready (rs := [3]) (by kernel_rfl) (by simp) ?_
        refine AllReadyH.cons (o := ⟨_, _, _, _, _, _⟩) rfl (fun K hK => ?_) (AllReadyH.nil)
        go_simp
        (go_at_call 33; (with_reducible refine (KA.out _).mono ?_); rintro e w' ⟨rfl, rfl⟩)
        (try go_wp2_with fail)
        refine hK.out _ _ ?hB36 (fun hHeld => ?_)
        case hB36 => exact hHeld
        clear hK K
        (try simp only [Act.put, List.setIfInBounds_toArray, List.set_cons_zero, List.set_cons_succ])
        refine wpAnyH_ready (rs := [4]) (by kernel_rfl) (by simp) ?_
        refine AllReadyH.cons (o := ⟨_, _, _, _, _, _⟩) rfl (fun K hK => ?_) (AllReadyH.nil)
        go_simp
        go_at_call 32
        (with_reducible refine (KO.out _).mono ?_)
        rintro e v21 ⟨rfl, hu21⟩
        have HG21 := Lib.hid (HG19.out.keep hu21)
        have RB21 := Blk.up RBn19 hu21
        clear hu21
        (try go_wp2_with fail)
        refine hK.out _ _ ?hB37 (fun hHeld => ?_)
        case hB37 => exact HG21.out.s
        clear hK K
        (try simp only [Act.put, List.setIfInBounds_toArray, List.set_cons_zero, List.set_cons_succ])
        refine wpAnyH_ready (rs := [5]) (by kernel_rfl) (by simp) ?_
        refine AllReadyH.cons (o := ⟨_, _, _, _, _, _⟩) rfl (fun K hK => ?_) (AllReadyH.nil)
        go_simp
        refine hK.out _ _ ?hB38 (fun hHeld => ?_)
        case hB38 => exact (HG21.out.keep ((Up.refl _).alloc _ _)).s
        clear hK K
        (try simp only [Act.put, List.setIfInBounds_toArray, List.set_cons_zero, List.set_cons_succ])
        have HG22 : Hid (Sg w ((v21.alloc (.cells #[.int .u64 (hiZ x), .int .u64 (loZ x)] 54))) q p0 p1 A1 A2 i i k1 k2 cA cB) := Lib.hid (HG21.out.keep ((Up.refl _).alloc _ _))
        have RB22 := Blk.alloc RB21 (.cells #[.int .u64 (hiZ x), .int .u64 (loZ x)] 54)
        have RAn22 : Blk (v21.alloc (.cells #[.int .u64 (hiZ x), .int .u64 (loZ x)] 54)) (v21.heap.size) 54 #[.int .u64 (hiZ x), .int .u64 (loZ x)] := blk_newAt (by simp [go_sem])
        refine wpAnyH_ready (rs := [6]) (by kernel_rfl) (by simp) ?_
        refine AllReadyH.cons (o := ⟨_, _, _, _, _, _⟩) rfl (fun K hK => ?_) (AllReadyH.nil)
        obtain ⟨A3, k3, v23, hr23, hA3, hB3, hap3, hu3, hk3⟩ := appendQ 65 54 65 _ 2 16 Try.underlying65 wide_info rfl (by omega) w (v21.alloc (.cells #[.int .u64 (hiZ x), .int .u64 (loZ x)] 54)) A1 i k1 cA HG22.out.a HG22.out.up (v21.heap.size) [.int .u64 (hiZ x), .int .u64 (loZ x)] rfl RAn22 (by intro z hz; simp at hz; rcases hz with rfl | rfl <;> rfl) (by omega) _ 1 A2 i k2 cB HG22.out.b HG22.out.ap
        have hq23 := hk3 _ _ _ HG22.out.it (fun o => HQA.out q o (Nat.le_refl _))
        have RB23 := hk3 _ _ _ RB22 (fun o => HQA.out _ o lb19)
        refine step_append_run rfl (.tmp 19) (.tmp 24) _ rfl _ _ rfl rfl _ _ hr23 ?_
        refine hK.out _ _ ?hB39 (fun hHeld => ?_)
        case hB39 => exact blk_s hq23
        clear hK K
        (try simp only [Act.put, List.setIfInBounds_toArray, List.set_cons_zero, List.set_cons_succ])
        refine wpAnyH_ready (rs := [12]) (by kernel_rfl) (by simp) ?_
        refine AllReadyH.cons (o := ⟨_, _, _, _, _, _⟩) rfl (fun K hK => ?_) (AllReadyH.nil)
        obtain ⟨A4, k4, v24, hr24, hB4, hA4, hap4, hu4, hk4⟩ := appendQ 66 4 66 _ 1 1 Try.underlying66 bool_info rfl (by omega) w v23 A2 i k2 cB hB3 hu3 (wi.heap.size) [.bool s] rfl RB23 (by intro z hz; simp at hz; subst hz; rfl) (by omega) _ 2 A3 (i + 1) k3 _ hA3 hap3.symm
        have hq24 := hk4 _ _ _ hq23 (fun o => HQB.out q o (Nat.le_refl _))
        refine step_append_run rfl (.tmp 26) (.tmp 30) _ rfl _ _ rfl rfl _ _ hr24 ?_
        refine hK.out _ _ ?hB40 (fun hHeld => ?_)
        case hB40 => exact blk_s hq24
        clear hK K
        (try simp only [Act.put, List.setIfInBounds_toArray, List.set_cons_zero, List.set_cons_succ])
        refine wpAnyH_take (i := 13) (oi := ⟨_, _, _, _, _, _⟩) (v := ?v41) rfl (by kernel_rfl) (by kernel_rfl) (by kernel_rfl) (fun _ _ _ h => h) (Or.inl ⟨by rfl, ?hy41⟩) (by assumption) ?_
        case hy41 => (intro w hSw; (try dsimp only at hSw); go_simp; (try (with_reducible rfl)))
        (try simp only [Act.put, List.setIfInBounds_toArray, List.set_cons_zero, List.set_cons_succ])
        refine wpAnyH_take (i := 14) (oi := ⟨_, _, _, _, _, _⟩) (v := ?v42) rfl (by kernel_rfl) (by kernel_rfl) (by kernel_rfl) (fun _ _ _ h => h) (Or.inl ⟨by rfl, ?hy42⟩) (by assumption) ?_
        case hy42 => (intro w hSw; (try dsimp only at hSw); go_simp; (try (with_reducible rfl)))
        (try simp only [Act.put, List.setIfInBounds_toArray, List.set_cons_zero, List.set_cons_succ])
        refine wpAnyH_done (by kernel_rfl) ?_ _
        go_wp2_with fail
        go_roundw
        case rel => exact ⟨i + 1, A3, A4, k3, k4, rfl, rfl, by go_num, by omega, by rw [HNA.out]; exact hA4, by rw [HNB.out]; exact hB4, hap4.symm, hu4⟩
        case measure => simp [intOf]; omega
    · obtain rfl : i = n := by omega
      have SA := Lib.hid (Rw.sw hA)
      have SB := Lib.hid (Rw.sb hB)
      have KT := Lib.hid (rtotal_up i k1 k2 A1 A2 (xsS L) (sgS L) HXs.out (by omega) wr SA.out SB.out)
      rw [HTt.out] at KT
      dsimp only at KT
      have HU := Lib.hid hU
      generalize posZ L = P at *
      generalize negZ L = Q at *
      clear hA hB hap hU
      go_wp2_with fail
      refine KT.out.mono ?_
      rintro e w1 ⟨rfl, hu1⟩
      have HU1 := Lib.hid (HU.out.trans hu1)
      clear hu1
      go_wp2_with fail
      refine (KN.out _).mono ?_
      rintro e w2 ⟨⟨v, rfl, hv⟩, hu2⟩
      have HU2 := Lib.hid (((HU1.out.alloc _ _).alloc _ _).trans hu2)
      clear hu2
      unfold got
      cases fy with
      | false =>
        obtain rfl : fx = 0 := HFN.out rfl
        clear hv HFX HFN
        go_wp2_with fail
        go_ret2
        exact ⟨rfl, HU2.out⟩
      | true =>
        obtain rfl : v = fx := (hv rfl).trans (HFX.out rfl).symm
        clear hv HFX HFN
        go_wp2_with fail
        go_ret2
        exact ⟨rfl, HU2.out⟩

theorem makeB_run (c : Nat) (hc : c ≤ 1000000) (w : World) : (Instr.makeSlice 66 (.int .i64 (c : Int)) (.int .i64 (c : Int))).run Try.prog w =
    .ok (.slice (some ⟨w.heap.size, 0, none⟩) c c) (w.alloc (.cells (List.replicate c (.bool false)).toArray 4)) := by
  obtain ⟨i, hi, hz, hs, hb⟩ := info_parts bool_info
  have := run_make (P := Try.prog) w 66 4 i _ Try.underlying66 hi hz .i64 .i64 (c : Int) (c : Int) (by omega) (by omega) (by rw [hb]; omega) (by omega)
  rw [this, hs, Int.toNat_natCast]
  have e : (List.replicate c (Value.bool false)).toArray = madeCells #[.bool false] (c * 1) := by
    apply Array.ext'
    apply List.ext_getElem?
    intro j
    simp only [madeCells, Array.toList_map, Array.toList_range, List.getElem?_map, Nat.mul_one, List.getElem?_replicate]
    by_cases hj : j < c
    · rw [List.getElem?_range hj, if_pos hj]; simp [Nat.mod_one]
    · rw [List.getElem?_eq_none (by simp; omega), if_neg hj]; rfl
  rw [e]
  rfl

set_option maxHeartbeats 16000000 in
set_option maxRecDepth 100000 in
theorem rsquares_up (n k : Nat) (A : Option Addr) (L : List It) (hn : n ≤ 100000) (hI : InI L) (w : World) (hS : Sl w A n L) :
    Calls Try.prog 36 #[.slice A n k] w fun e w' => e = got2 (totN (xsQ L) (fun _ => false) n).1 (totN (xsQ L) (fun _ => false) n).2.2 ∧ Up w w' := by
  have HL := Lib.hid hS.1
  have HS := Lib.hid hS
  have HI := Lib.hid hI
  have hln := hS.1
  have HXs : Hid (∀ j, j < n → In2 (xsQ L j)) := Lib.hid (fun j hj => by
    have := sq_in (hI.at_ (show j < L.length by omega)).2
    exact In2_of_le this.1 this.2)
  have KT := Lib.hid (fun W A1 k1 A2 k2 (h1 : Sw W A1 n (xsQ L)) (h2 : Sb W A2 n (fun _ => false)) => rtotal_up n k1 k2 A1 A2 (xsQ L) (fun _ => false) HXs.out (by omega) W h1 h2)
  unfold got2
  generalize (totN (xsQ L) (fun _ => false) n).1 = P at *
  generalize (totN (xsQ L) (fun _ => false) n).2.1 = Q at *
  generalize (totN (xsQ L) (fun _ => false) n).2.2 = R at *
  have HMK := Lib.hid (makeB_run n (by omega))
  have HUr := Lib.hid ((Up.refl w).alloc #[.int .u64 0, .int .u64 0] 54)
  clear hS hI hln
  go_enter Try.func36, Try.ntmps36
  go_wp2_with fail
  generalize hwb : w.alloc (.cells #[.int .u64 0, .int .u64 0] 54) = wb at *
  have r0 : wb.cell? ⟨w.heap.size, 0, none⟩ = some (.int .u64 0) := by rw [← hwb]; simp [go_sem]
  have r1 : wb.cell? ⟨w.heap.size, 1, none⟩ = some (.int .u64 0) := by rw [← hwb]; simp [go_sem]
  have HR0 := Lib.hid r0
  have HR1 := Lib.hid r1
  clear hwb r0 r1
  go_loopw [4, 12] (fun s t wr => ∃ (i : Nat) (A1 : Option Addr) (k1 : Nat), s = .slice A1 i k1 ∧ t = .int .i64 i ∧ i ≤ n ∧ Rw wb wr 54 2 (.slice A1 i k1) i (wl (xsQ L) i) ∧ Up wb wr) (fun _ t _ => n - (intOf t).toNat)
  case atStart => exact ⟨0, none, 0, rfl, rfl, Nat.zero_le _, Rw.nil _ _ _ _, Up.refl _⟩
  case round =>
    obtain ⟨i, A1, k1, rfl, rfl, hin, hA, hU⟩ := hrel
    by_cases hi : i < n
    · obtain ⟨bb, o, rfl, d0, d1⟩ := (HS.out.up (HUr.out.trans hU)).at_ hi
      have hil : i < L.length := by rw [HL.out]; exact hi
      obtain ⟨ip, iv⟩ := HI.out.at_ hil
      have HNA : Hid (wl (xsQ L) (i + 1) = wl (xsQ L) i ++ [.int .u64 (hiZ (xsQ L i)), .int .u64 (loZ (xsQ L i))]) := Lib.hid rfl
      have hxd : xsQ L i = (L.getD i (0, 0)).2 * (L.getD i (0, 0)).2 := rfl
      generalize (L.getD i (0, 0)).1 = p0 at *
      generalize (L.getD i (0, 0)).2 = p1 at *
      have KA := Lib.hid (fun W => rabs_any p1 iv W)
      have hw : Word (p1.natAbs : Int) := by unfold Word; unfold In at iv; omega
      have KP := Lib.hid (fun W => rproduct_up (p1.natAbs : Int) (p1.natAbs : Int) hw hw W)
      rw [sq_abs, ← hxd] at KP
      generalize (p1.natAbs : Int) = pa at *
      clear hw hxd ip iv
      generalize xsQ L i = x at *
      have f2 : (i : Int) < n := by omega
      have f3 : (0 : Int) ≤ i := by omega
      have HG00 : Hid (Sg wb (wr.alloc (.cells #[.int .i64 p0, .int .i64 p1] 40)) wr.heap.size p0 p1 A1 none i 0 k1 0 (wl (xsQ L) i) []) := Lib.hid
        ⟨hA.of_up ((Up.refl wr).alloc _ _), Rw.nil _ _ _ _, Apt.none_l.symm, hU.alloc _ _, Blk.new _ _ _⟩
      have HQA : Hid (∀ g o, wr.heap.size ≤ g → A1 ≠ some ⟨g, o, none⟩) := Lib.hid (fun g o hg he => by have := hA.lt g o he; omega)
      generalize wl (xsQ L) i = cA at *
      clear hA
      go_upto_region 5 with fail
      have HG0 : Hid (Sg wb (wr.alloc (.cells #[.int .i64 p0, .int .i64 p1] 40)).drew wr.heap.size p0 p1 A1 none i 0 k1 0 cA []) := Lib.hid (HG00.out.keep (Up.refl _).drew)
      clear HG00 d0 d1 hU
      generalize wr.alloc (.cells #[.int .i64 p0, .int .i64 p1] 40) = wi at *
      generalize wr.heap.size = q at *
      refine wp_region_held_drew (S := fun w' => Blk w' q 40 #[.int .i64 p0, .int .i64 p1] ∧ w'.cell? ⟨q, 1, none⟩ = some (.int .i64 p1)) (by kernel_rfl) ?hB43 (fun hHeld => ?_)
      case hB43 => exact HG0.out.s
      refine wpAnyH_take (i := 0) (oi := ⟨_, _, _, _, _, _⟩) (v := ?v44) rfl (by kernel_rfl) (by kernel_rfl) (by kernel_rfl) (fun _ _ _ h => h) (Or.inl ⟨by rfl, ?hy44⟩) (by assumption) ?_
      case hy44 => (intro w hSw; (try dsimp only at hSw); go_simp; (try (with_reducible rfl)))
      (try simp only [Act.put, List.setIfInBounds_toArray, List.set_cons_zero, List.set_cons_succ])
      refine wpAnyH_take (i := 1) (oi := ⟨_, _, _, _, _, _⟩) (v := ?v45) rfl (by kernel_rfl) (by kernel_rfl) (by kernel_rfl) (fun _ _ _ h => h) (Or.inl ⟨by rfl, ?hy45⟩) (by assumption) ?_
      case hy45 => (intro w hSw; (try dsimp only at hSw); go_simp; (try (with_reducible rfl)))
      (try simp only [Act.put, List.setIfInBounds_toArray, List.set_cons_zero, List.set_cons_succ])
      refine wpAnyH_take (i := 2) (oi := ⟨_, _, _, _, _, _⟩) (v := ?v46) rfl (by kernel_rfl) (by kernel_rfl) (by kernel_rfl) (fun _ _ _ h => h) (Or.inl ⟨by rfl, ?hy46⟩) (by assumption) ?_
      case hy46 => (intro w hSw; (try dsimp only at hSw); go_simp; (try (with_reducible rfl)))
      (try simp only [Act.put, List.setIfInBounds_toArray, List.set_cons_zero, List.set_cons_succ])
      refine wpAnyH_take (i := 4) (oi := ⟨_, _, _, _, _, _⟩) (v := ?v47) rfl (by kernel_rfl) (by kernel_rfl) (by kernel_rfl) (fun _ _ _ h => h) (Or.inl ⟨by rfl, ?hy47⟩) (by assumption) ?_
      case hy47 => (intro w hSw; (try dsimp only at hSw); go_simp; (try (with_reducible rfl)))
      (try simp only [Act.put, List.setIfInBounds_toArray, List.set_cons_zero, List.set_cons_succ])
      refine wpAnyH_take (i := 5) (oi := ⟨_, _, _, _, _, _⟩) (v := ?v48) rfl (by kernel_rfl) (by kernel_rfl) (by kernel_rfl) (fun _ _ _ h => h) (Or.inl ⟨by rfl, ?hy48⟩) (by assumption) ?_
      case hy48 => (intro w hSw; (try dsimp only at hSw); go_simp; (try (with_reducible rfl)))
      (try simp only [Act.put, List.setIfInBounds_toArray, List.set_cons_zero, List.set_cons_succ])
      refine wpAnyH_ready (rs := [3]) (by kernel_rfl) (by simp) ?_
      refine AllReadyH.cons (o := ⟨_, _, _, _, _, _⟩) rfl (fun K hK => ?_) (AllReadyH.nil)
      go_simp
      (go_at_call 33; (with_reducible refine (KA.out _).mono ?_); rintro e w' ⟨rfl, rfl⟩)
      (try go_wp2_with fail)
      refine hK.out _ _ ?hB49 (fun hHeld => ?_)
      case hB49 => exact hHeld
      clear hK K
      (try simp only [Act.put, List.setIfInBounds_toArray, List.set_cons_zero, List.set_cons_succ])
      refine wpAnyH_ready (rs := [6]) (by kernel_rfl) (by simp) ?_
      refine AllReadyH.cons (o := ⟨_, _, _, _, _, _⟩) rfl (fun K hK => ?_) (AllReadyH.nil)
      go_simp
      (go_at_call 33; (with_reducible refine (KA.out _).mono ?_); rintro e w' ⟨rfl, rfl⟩)
      (try go_wp2_with fail)
      refine hK.out _ _ ?hB50 (fun hHeld => ?_)
      case hB50 => exact hHeld
      clear hK K
      (try simp only [Act.put, List.setIfInBounds_toArray, List.set_cons_zero, List.set_cons_succ])
      refine wpAnyH_ready (rs := [7]) (by kernel_rfl) (by simp) ?_
      refine AllReadyH.cons (o := ⟨_, _, _, _, _, _⟩) rfl (fun K hK => ?_) (AllReadyH.nil)
      go_simp
      go_at_call 51
      (with_reducible refine (KP.out _).mono ?_)
      rintro e v27 ⟨rfl, hu27⟩
      have HG27 := Lib.hid (HG0.out.keep hu27)
      clear hu27
      (try go_wp2_with fail)
      refine hK.out _ _ ?hB51 (fun hHeld => ?_)
      case hB51 => exact HG27.out.s
      clear hK K
      (try simp only [Act.put, List.setIfInBounds_toArray, List.set_cons_zero, List.set_cons_succ])
      refine wpAnyH_ready (rs := [8]) (by kernel_rfl) (by simp) ?_
      refine AllReadyH.cons (o := ⟨_, _, _, _, _, _⟩) rfl (fun K hK => ?_) (AllReadyH.nil)
      go_simp
      refine hK.out _ _ ?hB52 (fun hHeld => ?_)
      case hB52 => exact (HG27.out.keep ((Up.refl _).alloc _ _)).s
      clear hK K
      (try simp only [Act.put, List.setIfInBounds_toArray, List.set_cons_zero, List.set_cons_succ])
      have HG28 : Hid (Sg wb ((v27.alloc (.cells #[.int .u64 (hiZ x), .int .u64 (loZ x)] 54))) q p0 p1 A1 none i 0 k1 0 cA []) := Lib.hid (HG27.out.keep ((Up.refl _).alloc _ _))
      have RAn28 : Blk (v27.alloc (.cells #[.int .u64 (hiZ x), .int .u64 (loZ x)] 54)) (v27.heap.size) 54 #[.int .u64 (hiZ x), .int .u64 (loZ x)] := blk_newAt (by simp [go_sem])
      refine wpAnyH_ready (rs := [9]) (by kernel_rfl) (by simp) ?_
      refine AllReadyH.cons (o := ⟨_, _, _, _, _, _⟩) rfl (fun K hK => ?_) (AllReadyH.nil)
      obtain ⟨A3, k3, v29, hr29, hA3, hB3, hap3, hu3, hk3⟩ := appendQ 65 54 65 _ 2 16 Try.underlying65 wide_info rfl (by omega) wb (v27.alloc (.cells #[.int .u64 (hiZ x), .int .u64 (loZ x)] 54)) A1 i k1 cA HG28.out.a HG28.out.up (v27.heap.size) [.int .u64 (hiZ x), .int .u64 (loZ x)] rfl RAn28 (by intro z hz; simp at hz; rcases hz with rfl | rfl <;> rfl) (by omega) _ 1 none 0 0 [] HG28.out.b HG28.out.ap
      have hq29 := hk3 _ _ _ HG28.out.it (fun o => HQA.out q o (Nat.le_refl _))
      refine step_append_run rfl (.tmp 16) (.tmp 24) _ rfl _ _ rfl rfl _ _ hr29 ?_
      refine hK.out _ _ ?hB53 (fun hHeld => ?_)
      case hB53 => exact blk_s hq29
      clear hK K
      (try simp only [Act.put, List.setIfInBounds_toArray, List.set_cons_zero, List.set_cons_succ])
      refine wpAnyH_take (i := 10) (oi := ⟨_, _, _, _, _, _⟩) (v := ?v54) rfl (by kernel_rfl) (by kernel_rfl) (by kernel_rfl) (fun _ _ _ h => h) (Or.inl ⟨by rfl, ?hy54⟩) (by assumption) ?_
      case hy54 => (intro w hSw; (try dsimp only at hSw); go_simp; (try (with_reducible rfl)))
      (try simp only [Act.put, List.setIfInBounds_toArray, List.set_cons_zero, List.set_cons_succ])
      refine wpAnyH_done (by kernel_rfl) ?_ _
      go_wp2_with fail
      go_roundw
      case rel => exact ⟨i + 1, A3, k3, rfl, by go_num, by omega, by rw [HNA.out]; exact hA3, hu3⟩
      case measure => simp [intOf]; omega
    · obtain rfl : i = n := by omega
      have SA := Rw.sw hA
      have hmk := HMK.out wr
      have HSA := Lib.hid (SA.up ((Up.refl wr).alloc (List.replicate i (.bool false)).toArray 4))
      have HSB : Hid (Sb (wr.alloc (.cells (List.replicate i (.bool false)).toArray 4)) (some ⟨wr.heap.size, 0, none⟩) i (fun _ => false)) := Lib.hid (fun hp => ⟨wr.heap.size, 0, rfl, fun j hj => by
        rw [Nat.zero_add, Blk.cell (Blk.new wr 4 _)]; simp [hj]⟩)
      have HU := Lib.hid (hU.alloc (List.replicate i (.bool false)).toArray 4)
      clear hA SA hU
      go_wp2_with fail
      refine (KT.out _ _ _ _ _ HSA.out HSB.out).mono ?_
      rintro e w1 ⟨rfl, hu1⟩
      have HU1 := Lib.hid (HU.out.trans hu1)
      have r0 := HU1.out.keep _ _ _ HR0.out
      have r1 := HU1.out.keep _ _ _ HR1.out
      have HU2 := Lib.hid (HUr.out.trans HU1.out)
      have z0 := HU2.out.ownGe (Nat.le_refl w.heap.size) 0
      have z1 := HU2.out.ownGe (Nat.le_refl w.heap.size) 1
      have lw : w.heap.size < w1.heap.size := World.block_lt_of_cell? _ _ r0
      have lw2 : w.heap.size < w1.heap.size + 1 := by omega
      clear hu1 hmk
      go_wp2_with fail
      refine bodyPost_ret (v := .tuple #[.agg #[.int .u64 (hiZ P), .int .u64 (loZ P)], .bool R]) (by simp [results, Try.results36, go_sem, r0, r1, lw, lw2]) rfl ⟨?_, ?_⟩
      · rfl
      · ((repeat (first | (with_reducible exact Up.refl _) | (with_reducible exact HU2.out) | (with_reducible refine Up.alloc ?_ _ _) | (with_reducible refine Up.setCell ?_ ?_ _) | (with_reducible refine Up.drewN ?_ _) | (with_reducible refine Up.drew ?_))); all_goals (first | (simp; done) | (simp; omega) | omega))

theorem rsquaresE_up (n k : Nat) (A : Option Addr) (L : List It) (hn : n ≤ 100000) (hI : InI L) (w : World) (hS : Sl w A n L) :
    Calls Try.prog 17 #[.slice A n k] w fun e w' => e = got (fit (sqZ L)) (fits (sqZ L)) ∧ Up w w' := by
  have K1 := Lib.hid (rsquares_up n k A L hn hI w hS)
  obtain ⟨_, t1, t2, t3⟩ := totN_sq (L := L) n (by rw [hS.1]; exact Nat.le_refl _)
  rw [List.take_of_length_le (by rw [hS.1]; exact Nat.le_refl _)] at t1 t3
  have hin := (totN_in2 (xsQ L) (fun _ => false) n).1
  have h0 := sqZ_nonneg L
  generalize (totN (xsQ L) (fun _ => false) n).1 = P at *
  generalize (totN (xsQ L) (fun _ => false) n).2.2 = R at *
  have KN := Lib.hid (fun W => rnumber_up P 0 hin ⟨by decide, by decide⟩ W)
  rw [show hiZ 0 = 0 by decide, show loZ 0 = 0 by decide, Int.sub_zero] at KN
  unfold got2 at K1
  cases R with
  | false =>
    have ef : fits (sqZ L) = false := by
      rw [Bool.eq_false_iff]
      intro h
      have h1 : -9223372036854775808 ≤ sqZ L ∧ sqZ L ≤ 9223372036854775807 := of_decide_eq_true h
      have := t2 (fits2_yes ⟨h0, by omega⟩)
      cases this
    rw [show fit (sqZ L) = 0 by unfold fit; rw [ef]; rfl, ef]
    clear t1 t2 t3 hin h0 ef hS hI
    go_enter Try.func17, Try.ntmps17
    go_wp2_with fail
    refine K1.out.mono ?_
    rintro e w1 ⟨rfl, hu1⟩
    go_wp2_with fail
    refine (KN.out _).mono ?_
    rintro e w2 ⟨⟨v, rfl, _⟩, hu2⟩
    have HU2 := Lib.hid ((hu1.alloc _ _).trans hu2)
    unfold got
    go_wp2_with fail
    go_ret2
    exact ⟨rfl, HU2.out⟩
  | true =>
    obtain rfl := t1 rfl
    cases hf : fits (sqZ L) with
    | false =>
      rw [hf] at KN
      rw [show fit (sqZ L) = 0 by unfold fit; rw [hf]; rfl]
      clear t1 t2 t3 hin h0 hf hS hI
      go_enter Try.func17, Try.ntmps17
      go_wp2_with fail
      refine K1.out.mono ?_
      rintro e w1 ⟨rfl, hu1⟩
      go_wp2_with fail
      refine (KN.out _).mono ?_
      rintro e w2 ⟨⟨v, rfl, _⟩, hu2⟩
      have HU2 := Lib.hid ((hu1.alloc _ _).trans hu2)
      unfold got
      go_wp2_with fail
      go_ret2
      exact ⟨rfl, HU2.out⟩
    | true =>
      rw [hf] at KN
      rw [show fit (sqZ L) = sqZ L by unfold fit; rw [hf]; rfl]
      clear t1 t2 t3 hin h0 hf hS hI
      go_enter Try.func17, Try.ntmps17
      go_wp2_with fail
      refine K1.out.mono ?_
      rintro e w1 ⟨rfl, hu1⟩
      go_wp2_with fail
      refine (KN.out _).mono ?_
      rintro e w2 ⟨⟨v, rfl, hv⟩, hu2⟩
      obtain rfl : v = sqZ L := hv (by first | trivial | rfl)
      have HU2 := Lib.hid ((hu1.alloc _ _).trans hu2)
      unfold got
      go_wp2_with fail
      go_ret2
      exact ⟨rfl, HU2.out⟩
end Go.Proofs.Ytafkoddgefcpnab
