/- Texts of these claims, one after the other. -/
import Derived.Test.YtchikndofpkjmaaRows
import Derived.Test.YtchikndofpkjmaaZHSmallq50
namespace Go.Proofs.Ytchikndofpkjmaa
open Go.RowKit
set_option linter.unusedVariables false

theorem Sl.off {w : World} {A : Option Addr} {n p o : Nat} {M : List It} (h : Sl w A n M) (hn : ∀ b o, A = some ⟨b, o, none⟩ → b ≠ p) (x : Value) : Sl (w.setCell ⟨p, o, none⟩ x) A n M := by
  refine ⟨h.1, fun h0 => ?_⟩
  obtain ⟨b, o, e, hc⟩ := h.2 h0
  exact ⟨b, o, e, fun j u hj => (cell_far (fun hp => hn b o e hp.symm)).trans (hc j u hj)⟩
/-- An address that was not there before. -/
def Nw (w : World) (A : Option Addr) : Prop := ∀ b o, A = some ⟨b, o, none⟩ → w.heap.size ≤ b
theorem Nw.up {w w1 : World} {A : Option Addr} (h : Nw w1 A) (hu : Up w w1) : Nw w A := fun b o e => Nat.le_trans hu.size (h b o e)
theorem Nw.off {w : World} {A : Option Addr} {p : Nat} (h : Nw w A) (hp : p < w.heap.size) : ∀ b o, A = some ⟨b, o, none⟩ → b ≠ p := fun b o e => by have := h b o e; omega
theorem rmayK11_any (q : Int) (w : World) :
    Calls Try.prog 40 #[.int .i64 q] w fun e w' => e = .returned (.bool (decide (1 ≤ q ∧ q ≤ 64))) ∧ w = w' := by
  cases h1 : decide (1 ≤ q) with
  | false =>
    rw [decide_eq_false (p := 1 ≤ q ∧ q ≤ 64) (fun h => by rw [decide_eq_true h.1] at h1; cases h1)]
    go_enter Try.func40, Try.ntmps40
    go_wp2
    go_ret
    exact ⟨rfl, rfl⟩
  | true =>
  cases h2 : decide (q ≤ 64) with
  | false =>
    rw [decide_eq_false (p := 1 ≤ q ∧ q ≤ 64) (fun h => by rw [decide_eq_true h.2] at h2; cases h2)]
    go_enter Try.func40, Try.ntmps40
    go_wp2
    go_ret
    exact ⟨rfl, rfl⟩
  | true =>
    rw [decide_eq_true (p := 1 ≤ q ∧ q ≤ 64) ⟨of_decide_eq_true h1, of_decide_eq_true h2⟩]
    go_enter Try.func40, Try.ntmps40
    go_wp2
    go_ret
    exact ⟨rfl, rfl⟩

end Go.Proofs.Ytchikndofpkjmaa

namespace Go.Proofs.Ytchikndofpkjmaa
open Go.RowKit
set_option linter.unusedVariables false

theorem appendG (sl e ty : TypeId) (z : Value) (sz bt : Nat) (ht : Try.prog.underlying sl = some (.slice e)) (hinf : (Try.prog.info? e).map (fun i => (i.zero, i.size, i.bytes)) = some (some z, sz, bt)) (hzs : z.cells.size = sz) (hbt : bt ≤ 1000)
    (w0 w : World) (v : Value) (n : Nat) (cs : List Value) (hO : Rw w0 w e sz v n cs) (hu : Up w0 w) (b o m c : Nat) (ds : List Value) (hd : ds.length = m * sz) (h0 : 0 < m) (hcell : ∀ j u, ds[j]? = some u → w.cell? ⟨b, o + j, none⟩ = some u) (hone : ∀ u ∈ ds, u.oneCell' = true) (hlen : n + m ≤ 1000000) :
    ∃ g' k' w', (Builtin.append_ #[sl, sl] ty #[v, .slice (some ⟨b, o, none⟩) m c]).run Try.prog w = .ok (.slice (some ⟨g', 0, none⟩) (n + m) k') w' ∧ Rw w0 w' e sz (.slice (some ⟨g', 0, none⟩) (n + m) k') (n + m) (cs ++ ds) ∧ Up w0 w' ∧
      (w.heap.size ≤ g' ∨ ∃ n0 k0, v = .slice (some ⟨g', 0, none⟩) n0 k0) ∧ ∀ x, x < w.heap.size → x ≠ g' → w'.heap[x]? = w.heap[x]? := by
  obtain ⟨i, hi, hz, hs, hb⟩ := info_parts hinf
  have h63 : n + m ≤ maxLen := by simp only [maxLen]; omega
  have hbase := hu.size
  have hLn : cs.length = n * sz := hO.1
  have hfl : (cs ++ ds).length = (n + m) * sz := by rw [List.length_append, hLn, hd, Nat.add_mul]
  have hbm : (n + m) * bt ≤ 140737488351232 := Nat.le_trans (Nat.mul_le_mul hlen hbt) (by decide)
  have hmm : m * bt ≤ 140737488351232 := Nat.le_trans (Nat.mul_le_mul_right _ (by omega)) hbm
  have hnews : ∀ j u, ds[j]? = some u → w.cell? ((⟨b, o, none⟩ : Addr).add j) = some u := fun j u hj => by rw [add_at]; exact hcell j u hj
  have hl : ds.length = m * i.size := by rw [hd, hs]
  have grown : ∀ (old : Nat), old < n + m →
    (w.drew.alloc (.cells (cs.toArray ++ ds.toArray ++ Builtin.zeroCells z.cells (grownCap w (n + m) old e - (n + m))) e)).ownsRow w0.heap.size e sz
      (.slice (some ⟨w.heap.size, 0, none⟩) (n + m) (grownCap w (n + m) old e)) (n + m) (cs ++ ds) := by
    intro old ho
    have hge := grownCap_ge w (n + m) old e
    have hcm : grownCap w (n + m) old e ≤ maxLen := grownCap_le_maxLen w (n + m) old _ h63
    refine ⟨hfl, .inr ⟨w.heap.size, _, _, rfl, hbase, heap_alloc_new w.drew _, hge, hcm, ?_, ?_⟩⟩
    · simp only [Array.size_append, List.size_toArray, size_zeroCells, hLn, hd, hzs]
      rw [← Nat.add_mul, ← Nat.add_mul, Nat.add_sub_cancel' hge]
    · simp only [Array.toList_append, List.append_assoc]
      rw [← List.append_assoc, ← hfl]
      exact List.take_left
  have fresh : ∀ (ob : Obj) x, x < w.heap.size → x ≠ w.heap.size → (w.drew.alloc ob).heap[x]? = w.heap[x]? := fun ob x h _ => Below.heap_alloc w.drew ob x h
  rcases hO.2 with ⟨rfl, rfl⟩ | ⟨g, cap, cur, rfl, hbg, hg, hnc, hcm, hcs, htake⟩
  · have hx : cs = [] := List.eq_nil_of_length_eq_zero (by rw [hLn, Nat.zero_mul])
    have hr := run_append_nil (P := Try.prog) w sl ty e i _ ht hi hz ⟨b, o, none⟩ m c ds hl hnews (by omega) (by omega) (by rw [hb]; omega)
    have hgr := grown 0 (by omega)
    rw [hx] at hgr ⊢
    simp only [Nat.zero_add, List.nil_append, Array.empty_append] at hgr ⊢
    exact ⟨_, _, _, hr, hgr, hu.drew.alloc _ _, Or.inl (Nat.le_refl _), fresh _⟩
  · by_cases hroom : n + m ≤ cap
    · have hfit : n * i.size + ds.length ≤ cur.size := by rw [hl, hcs, hs, ← Nat.add_mul]; exact Nat.mul_le_mul_right _ hroom
      have hr := run_append_room (P := Try.prog) w sl ty e i ht hi g n cap cur hg ⟨b, o, none⟩ m c ds hl hnews hone hroom hfit
      obtain ⟨h1, h2⟩ := Cp.set w g cur (cur.toList.take (n * i.size) ++ ds ++ cur.toList.drop (n * i.size + ds.length)).toArray _ hg
      refine ⟨g, cap, _, hr, ⟨hfl, .inr ⟨g, cap, _, rfl, hbg, h2, hroom, hcm, ?_, ?_⟩⟩, h1.up w0 hu hbg, Or.inr ⟨_, _, rfl⟩, fun x _ hne => h1.far x hne⟩
      · simp only [List.size_toArray, List.length_append, List.length_take, List.length_drop, Array.length_toList]
        omega
      · rw [hs, htake, ← hfl]
        exact List.take_left
    · have holds : ∀ j u, cs[j]? = some u → w.cell? ((⟨g, 0, none⟩ : Addr).add j) = some u := World.ownsRow.cells (g := g) hO rfl
      have hr := run_append_grow (P := Try.prog) w sl ty e i _ ht hi hz ⟨g, 0, none⟩ n cap cs (by rw [hs]; exact hO.1) holds ⟨b, o, none⟩ m c ds hl hnews (by omega) (by omega) (growslice_fits (by omega) (by rw [hb]; omega))
      exact ⟨_, _, _, hr, grown cap (by omega), hu.drew.alloc _ _, Or.inl (Nat.le_refl _), fresh _⟩


/-- Blocks above p. -/
def Ab (p : Nat) (A : Option Addr) : Prop := ∀ b o, A = some ⟨b, o, none⟩ → p < b
theorem Ab.none_ (p : Nat) : Ab p none := fun _ _ e => by cases e
theorem Ab.off {A : Option Addr} {p q : Nat} (h : Ab p A) (hq : q ≤ p) : ∀ b o, A = some ⟨b, o, none⟩ → b ≠ q := fun b o e => by have := h b o e; omega
theorem Own.lt {w0 w : World} {A : Option Addr} {n k : Nat} {L : List It} (h : Own w0 w (.slice A n k) n L) : ∀ b o, A = some ⟨b, o, none⟩ → b < w.heap.size := Rw.lt (cs := fl L) h
end Go.Proofs.Ytchikndofpkjmaa

namespace Go.Proofs.Ytchikndofpkjmaa
open Go.RowKit
set_option linter.unusedVariables false

/-- The cells of a list of elements. -/
def flG {α : Type} (f : α → List Value) : List α → List Value
  | [] => []
  | x :: L => f x ++ flG f L
section
variable {α : Type} {f : α → List Value} {s : Nat}
theorem flG_len (hf : ∀ x, (f x).length = s) (L : List α) : (flG f L).length = L.length * s := by
  induction L with
  | nil => simp [flG]
  | cons x L ih => rw [flG, List.length_append, ih, hf, List.length_cons, Nat.add_mul]; omega
theorem flG_app (L M : List α) : flG f (L ++ M) = flG f L ++ flG f M := by
  induction L with
  | nil => rfl
  | cons x L ih => rw [List.cons_append, flG, flG, ih, List.append_assoc]
theorem flG_drop (hf : ∀ x, (f x).length = s) (L : List α) : ∀ k, (flG f L).drop (k * s) = flG f (L.drop k) := by
  induction L with
  | nil => intro k; simp [flG]
  | cons x L ih =>
    intro k
    cases k with
    | zero => simp
    | succ k =>
      rw [flG, List.drop_append, List.drop_eq_nil_of_le (by rw [hf, Nat.add_mul]; omega), hf, List.nil_append, show (k + 1) * s - s = k * s by rw [Nat.add_mul]; omega, ih]
      rfl
theorem flG_get (hf : ∀ x, (f x).length = s) {L : List α} {k i : Nat} (d : α) (h : k < L.length) (hi : i < s) : (flG f L)[k * s + i]? = (f (L.getD k d))[i]? := by
  have e := flG_drop hf L k
  rw [← List.getElem?_drop, e]
  have : L.drop k = L.getD k d :: L.drop (k + 1) := by
    rw [List.drop_eq_getElem_cons h]; simp [List.getD, h]
  rw [this, flG, List.getElem?_append_left (by rw [hf]; exact hi)]
theorem flG_one (h1 : ∀ x, ∀ u ∈ f x, u.oneCell' = true) (L : List α) : ∀ u ∈ flG f L, u.oneCell' = true := by
  induction L with
  | nil => intro u hu; cases hu
  | cons x L ih =>
    intro u hu
    rw [flG] at hu
    rcases List.mem_append.1 hu with g | g
    · exact h1 x u g
    · exact ih u g
/-- A slice that reads as the list L. -/
def SG (f : α → List Value) (w : World) (A : Option Addr) (n : Nat) (L : List α) : Prop :=
  L.length = n ∧ (0 < n → ∃ b o, A = some ⟨b, o, none⟩ ∧ ∀ j u, (flG f L)[j]? = some u → w.cell? ⟨b, o + j, none⟩ = some u)
variable {w w' : World} {A : Option Addr} {n : Nat} {L : List α}
theorem SG.none_ {A : Option Addr} : SG f w A 0 ([] : List α) := ⟨rfl, fun h => absurd h (by omega)⟩
theorem SG.at_ (h : SG f w A n L) (hf : ∀ x, (f x).length = s) (d : α) {k : Nat} (hk : k < n) :
    ∃ b o, A = some ⟨b, o, none⟩ ∧ ∀ i u, i < s → (f (L.getD k d))[i]? = some u → w.cell? ⟨b, o + k * s + i, none⟩ = some u := by
  obtain ⟨b, o, e, hc⟩ := h.2 (by omega)
  refine ⟨b, o, e, fun i u hi hu => ?_⟩
  rw [Nat.add_assoc]
  exact hc _ u (by rw [flG_get hf d (by rw [h.1]; exact hk) hi]; exact hu)
theorem SG.up (h : SG f w A n L) (hu : Up w w') : SG f w' A n L :=
  ⟨h.1, fun hn => by
    obtain ⟨b, o, e, hc⟩ := h.2 hn
    exact ⟨b, o, e, fun j u hj => hu.keep _ _ _ (hc j u hj)⟩⟩
theorem SG.off {p o : Nat} (h : SG f w A n L) (hn : ∀ b o, A = some ⟨b, o, none⟩ → b ≠ p) (x : Value) : SG f (w.setCell ⟨p, o, none⟩ x) A n L := by
  refine ⟨h.1, fun h0 => ?_⟩
  obtain ⟨b, o, e, hc⟩ := h.2 h0
  exact ⟨b, o, e, fun j u hj => (cell_far (fun hp => hn b o e hp.symm)).trans (hc j u hj)⟩
theorem SG.out (hs : 0 < s) (hf : ∀ x, (f x).length = s) (h : SG f w A n L) (hn : 0 < n) : ∃ b o, A = some ⟨b, o, none⟩ ∧ b < w.heap.size := by
  obtain ⟨b, o, e, hc⟩ := h.2 hn
  have hl : 0 < (flG f L).length := by rw [flG_len hf, h.1]; exact Nat.mul_pos hn hs
  obtain ⟨u, hu⟩ : ∃ u, (flG f L)[0]? = some u := ⟨_, List.getElem?_eq_getElem hl⟩
  exact ⟨b, o, e, World.block_lt_of_cell? _ _ (hc 0 u hu)⟩
/-- A row of the call's own that holds L. -/
def OG (f : α → List Value) (e : TypeId) (s : Nat) (w0 w : World) (v : Value) (n : Nat) (L : List α) : Prop := L.length = n ∧ Rw w0 w e s v n (flG f L)
theorem OG.nil (e : TypeId) (w0 w : World) : OG f e s w0 w (.slice none 0 0) 0 ([] : List α) := ⟨rfl, Rw.nil _ _ _ _⟩
theorem OG.of_up {e : TypeId} {w0 : World} {v : Value} (h : OG f e s w0 w v n L) (hu : Up w w') : OG f e s w0 w' v n L := ⟨h.1, h.2.of_up hu⟩
theorem OG.sg {e : TypeId} {w0 : World} {c : Nat} (h : OG f e s w0 w (.slice A n c) n L) : n ≤ c ∧ SG f w A n L := by
  rcases h.2.2 with ⟨h1, h2⟩ | ⟨g, cap, cur, h1, _, hh, hc, _, _, ht⟩
  · injection h1 with h3 h4 h5
    exact ⟨by omega, h.1, fun hx => absurd hx (by omega)⟩
  · injection h1 with h3 h4 h5
    subst h5
    refine ⟨hc, h.1, fun _ => ⟨g, 0, h3, fun j u hj => ?_⟩⟩
    rw [Nat.zero_add, cell_of_row w g j cur _ (0, 0) hh]
    rw [← ht, List.getElem?_take] at hj
    split at hj
    · simpa using hj
    · cases hj
theorem OG.nw {e : TypeId} {w0 : World} {c : Nat} (h : OG f e s w0 w (.slice A n c) n L) : Nw w0 A := by
  intro b o e
  rcases h.2.2 with ⟨h1, _⟩ | ⟨g, cap, cur, h1, h2, _⟩
  · injection h1 with h1; rw [h1] at e; cases e
  · injection h1 with h1
    rw [h1] at e
    injection e with e
    injection e with e1 e2
    omega
theorem OG.lt {e : TypeId} {w0 : World} {c : Nat} (h : OG f e s w0 w (.slice A n c) n L) : ∀ b o, A = some ⟨b, o, none⟩ → b < w.heap.size := Rw.lt h.2
end
end Go.Proofs.Ytchikndofpkjmaa

namespace Go.Proofs.Ytchikndofpkjmaa
open Go.RowKit
set_option linter.unusedVariables false

section
variable {α : Type} {f : α → List Value} {s : Nat}
variable {w w' : World} {A : Option Addr} {n : Nat} {L : List α}
/-- The cells s[k:], where A' is what the model makes of the address. -/
theorem SG.cut (h : SG f w A n L) (hf : ∀ x, (f x).length = s) {k cap : Nat} (hk : k ≤ n) (hc : n ≤ cap) :
    SG f w (if cap = k then A else A.map (·.add (k * s))) (n - k) (L.drop k) := by
  refine ⟨by rw [List.length_drop, h.1], fun hn => ?_⟩
  obtain ⟨b, o, rfl, hcell⟩ := h.2 (by omega)
  rw [if_neg (by omega)]
  refine ⟨b, o + k * s, by simp [add_at], fun j u hu => ?_⟩
  rw [Nat.add_assoc]
  exact hcell _ u (by rw [← flG_drop hf, List.getElem?_drop] at hu; exact hu)
end
end Go.Proofs.Ytchikndofpkjmaa

namespace Go.Proofs.Ytchikndofpkjmaa
open Go.RowKit
set_option linter.unusedVariables false

/-- The cells of a mark. -/
def cM (m : Mrk) : List Value := [.int .i64 m.sq, .int .i64 m.t, .int .i64 m.n, .int .i64 m.s, .int .i64 m.q, .int .i64 m.lo, .int .i64 m.hi]
theorem cM_len (m : Mrk) : (cM m).length = 7 := rfl
theorem cM_one (m : Mrk) : ∀ u ∈ cM m, u.oneCell' = true := by
  intro u hu
  simp only [cM, List.mem_cons, List.mem_nil_iff, or_false] at hu
  rcases hu with rfl | rfl | rfl | rfl | rfl | rfl | rfl <;> rfl
theorem mrk_at {w : World} {A : Option Addr} {n : Nat} {L : List Mrk} (h : SG cM w A n L) (d : Mrk) {k : Nat} (hk : k < n) :
    ∃ b o, A = some ⟨b, o, none⟩ ∧ w.cell? ⟨b, o + k * 7, none⟩ = some (.int .i64 (L.getD k d).sq) ∧ w.cell? ⟨b, o + k * 7 + 1, none⟩ = some (.int .i64 (L.getD k d).t) ∧ w.cell? ⟨b, o + k * 7 + 2, none⟩ = some (.int .i64 (L.getD k d).n) ∧ w.cell? ⟨b, o + k * 7 + 3, none⟩ = some (.int .i64 (L.getD k d).s) ∧ w.cell? ⟨b, o + k * 7 + 4, none⟩ = some (.int .i64 (L.getD k d).q) ∧ w.cell? ⟨b, o + k * 7 + 5, none⟩ = some (.int .i64 (L.getD k d).lo) ∧ w.cell? ⟨b, o + k * 7 + 6, none⟩ = some (.int .i64 (L.getD k d).hi) := by
  obtain ⟨b, o, e, hc⟩ := h.at_ cM_len d hk
  exact ⟨b, o, e, hc 0 _ (by omega) rfl, hc 1 _ (by omega) rfl, hc 2 _ (by omega) rfl, hc 3 _ (by omega) rfl, hc 4 _ (by omega) rfl, hc 5 _ (by omega) rfl, hc 6 _ (by omega) rfl⟩
theorem Up.set7 {w0 w : World} {p : Nat} {v0 v1 v2 v3 v4 v5 v6 : Value} (h : Up w0 w) (hp : w0.heap.size ≤ p) : Up w0 (((((((w.setCell ⟨p, 0, none⟩ v0).setCell ⟨p, 1, none⟩ v1).setCell ⟨p, 2, none⟩ v2).setCell ⟨p, 3, none⟩ v3).setCell ⟨p, 4, none⟩ v4).setCell ⟨p, 5, none⟩ v5).setCell ⟨p, 6, none⟩ v6) :=
  ((((((h.setCell hp _).setCell hp _).setCell hp _).setCell hp _).setCell hp _).setCell hp _).setCell hp _
theorem SG.off7 {α : Type} {f : α → List Value} {w : World} {A : Option Addr} {n p : Nat} {M : List α} (h : SG f w A n M) (hn : ∀ b o, A = some ⟨b, o, none⟩ → b ≠ p) (v0 v1 v2 v3 v4 v5 v6 : Value) : SG f (((((((w.setCell ⟨p, 0, none⟩ v0).setCell ⟨p, 1, none⟩ v1).setCell ⟨p, 2, none⟩ v2).setCell ⟨p, 3, none⟩ v3).setCell ⟨p, 4, none⟩ v4).setCell ⟨p, 5, none⟩ v5).setCell ⟨p, 6, none⟩ v6) A n M :=
  ((((((h.off hn _).off hn _).off hn _).off hn _).off hn _).off hn _).off hn _
theorem Sl.off7 {w : World} {A : Option Addr} {n p : Nat} {M : List It} (h : Sl w A n M) (hn : ∀ b o, A = some ⟨b, o, none⟩ → b ≠ p) (v0 v1 v2 v3 v4 v5 v6 : Value) : Sl (((((((w.setCell ⟨p, 0, none⟩ v0).setCell ⟨p, 1, none⟩ v1).setCell ⟨p, 2, none⟩ v2).setCell ⟨p, 3, none⟩ v3).setCell ⟨p, 4, none⟩ v4).setCell ⟨p, 5, none⟩ v5).setCell ⟨p, 6, none⟩ v6) A n M :=
  ((((((h.off hn _).off hn _).off hn _).off hn _).off hn _).off hn _).off hn _
theorem cells7 {w : World} {p : Nat} {v0 v1 v2 v3 v4 v5 v6 x0 x1 x2 x3 x4 x5 x6 : Value} (e0 : w.cell? ⟨p, 0, none⟩ = some x0) (e1 : w.cell? ⟨p, 1, none⟩ = some x1) (e2 : w.cell? ⟨p, 2, none⟩ = some x2) (e3 : w.cell? ⟨p, 3, none⟩ = some x3) (e4 : w.cell? ⟨p, 4, none⟩ = some x4) (e5 : w.cell? ⟨p, 5, none⟩ = some x5) (e6 : w.cell? ⟨p, 6, none⟩ = some x6) :
    let W := ((((((w.setCell ⟨p, 0, none⟩ v0).setCell ⟨p, 1, none⟩ v1).setCell ⟨p, 2, none⟩ v2).setCell ⟨p, 3, none⟩ v3).setCell ⟨p, 4, none⟩ v4).setCell ⟨p, 5, none⟩ v5).setCell ⟨p, 6, none⟩ v6
    W.cell? ⟨p, 0, none⟩ = some v0 ∧ W.cell? ⟨p, 1, none⟩ = some v1 ∧ W.cell? ⟨p, 2, none⟩ = some v2 ∧ W.cell? ⟨p, 3, none⟩ = some v3 ∧ W.cell? ⟨p, 4, none⟩ = some v4 ∧ W.cell? ⟨p, 5, none⟩ = some v5 ∧ W.cell? ⟨p, 6, none⟩ = some v6 :=
  ⟨cell_set (cell_set (cell_set (cell_set (cell_set (cell_set (cell_set (e0))))))), cell_set (cell_set (cell_set (cell_set (cell_set (cell_set (cell_set (e1))))))), cell_set (cell_set (cell_set (cell_set (cell_set (cell_set (cell_set (e2))))))), cell_set (cell_set (cell_set (cell_set (cell_set (cell_set (cell_set (e3))))))), cell_set (cell_set (cell_set (cell_set (cell_set (cell_set (cell_set (e4))))))), cell_set (cell_set (cell_set (cell_set (cell_set (cell_set (cell_set (e5))))))), cell_set (cell_set (cell_set (cell_set (cell_set (cell_set (cell_set (e6)))))))⟩
theorem keepK7 {w w1 w2 : World} {b0 o0 b1 o1 b2 o2 b3 o3 b4 o4 b5 o5 b6 o6 : Nat} {x0 x1 x2 x3 x4 x5 x6 : Value} (hu : Hid (Up w1 w2)) (h : Up w w1 ∧ w1.cell? ⟨b0, o0, none⟩ = some x0 ∧ w1.cell? ⟨b1, o1, none⟩ = some x1 ∧ w1.cell? ⟨b2, o2, none⟩ = some x2 ∧ w1.cell? ⟨b3, o3, none⟩ = some x3 ∧ w1.cell? ⟨b4, o4, none⟩ = some x4 ∧ w1.cell? ⟨b5, o5, none⟩ = some x5 ∧ w1.cell? ⟨b6, o6, none⟩ = some x6) : Up w w2 ∧ w2.cell? ⟨b0, o0, none⟩ = some x0 ∧ w2.cell? ⟨b1, o1, none⟩ = some x1 ∧ w2.cell? ⟨b2, o2, none⟩ = some x2 ∧ w2.cell? ⟨b3, o3, none⟩ = some x3 ∧ w2.cell? ⟨b4, o4, none⟩ = some x4 ∧ w2.cell? ⟨b5, o5, none⟩ = some x5 ∧ w2.cell? ⟨b6, o6, none⟩ = some x6 :=
  ⟨h.1.trans hu.out, hu.out.keep _ _ _ h.2.1, hu.out.keep _ _ _ h.2.2.1, hu.out.keep _ _ _ h.2.2.2.1, hu.out.keep _ _ _ h.2.2.2.2.1, hu.out.keep _ _ _ h.2.2.2.2.2.1, hu.out.keep _ _ _ h.2.2.2.2.2.2.1, hu.out.keep _ _ _ h.2.2.2.2.2.2.2⟩
theorem keepK14 {w w1 w2 : World} {b0 o0 b1 o1 b2 o2 b3 o3 b4 o4 b5 o5 b6 o6 b7 o7 b8 o8 b9 o9 b10 o10 b11 o11 b12 o12 b13 o13 : Nat} {x0 x1 x2 x3 x4 x5 x6 x7 x8 x9 x10 x11 x12 x13 : Value} (hu : Hid (Up w1 w2)) (h : Up w w1 ∧ w1.cell? ⟨b0, o0, none⟩ = some x0 ∧ w1.cell? ⟨b1, o1, none⟩ = some x1 ∧ w1.cell? ⟨b2, o2, none⟩ = some x2 ∧ w1.cell? ⟨b3, o3, none⟩ = some x3 ∧ w1.cell? ⟨b4, o4, none⟩ = some x4 ∧ w1.cell? ⟨b5, o5, none⟩ = some x5 ∧ w1.cell? ⟨b6, o6, none⟩ = some x6 ∧ w1.cell? ⟨b7, o7, none⟩ = some x7 ∧ w1.cell? ⟨b8, o8, none⟩ = some x8 ∧ w1.cell? ⟨b9, o9, none⟩ = some x9 ∧ w1.cell? ⟨b10, o10, none⟩ = some x10 ∧ w1.cell? ⟨b11, o11, none⟩ = some x11 ∧ w1.cell? ⟨b12, o12, none⟩ = some x12 ∧ w1.cell? ⟨b13, o13, none⟩ = some x13) : Up w w2 ∧ w2.cell? ⟨b0, o0, none⟩ = some x0 ∧ w2.cell? ⟨b1, o1, none⟩ = some x1 ∧ w2.cell? ⟨b2, o2, none⟩ = some x2 ∧ w2.cell? ⟨b3, o3, none⟩ = some x3 ∧ w2.cell? ⟨b4, o4, none⟩ = some x4 ∧ w2.cell? ⟨b5, o5, none⟩ = some x5 ∧ w2.cell? ⟨b6, o6, none⟩ = some x6 ∧ w2.cell? ⟨b7, o7, none⟩ = some x7 ∧ w2.cell? ⟨b8, o8, none⟩ = some x8 ∧ w2.cell? ⟨b9, o9, none⟩ = some x9 ∧ w2.cell? ⟨b10, o10, none⟩ = some x10 ∧ w2.cell? ⟨b11, o11, none⟩ = some x11 ∧ w2.cell? ⟨b12, o12, none⟩ = some x12 ∧ w2.cell? ⟨b13, o13, none⟩ = some x13 :=
  ⟨h.1.trans hu.out, hu.out.keep _ _ _ h.2.1, hu.out.keep _ _ _ h.2.2.1, hu.out.keep _ _ _ h.2.2.2.1, hu.out.keep _ _ _ h.2.2.2.2.1, hu.out.keep _ _ _ h.2.2.2.2.2.1, hu.out.keep _ _ _ h.2.2.2.2.2.2.1, hu.out.keep _ _ _ h.2.2.2.2.2.2.2.1, hu.out.keep _ _ _ h.2.2.2.2.2.2.2.2.1, hu.out.keep _ _ _ h.2.2.2.2.2.2.2.2.2.1, hu.out.keep _ _ _ h.2.2.2.2.2.2.2.2.2.2.1, hu.out.keep _ _ _ h.2.2.2.2.2.2.2.2.2.2.2.1, hu.out.keep _ _ _ h.2.2.2.2.2.2.2.2.2.2.2.2.1, hu.out.keep _ _ _ h.2.2.2.2.2.2.2.2.2.2.2.2.2.1, hu.out.keep _ _ _ h.2.2.2.2.2.2.2.2.2.2.2.2.2.2⟩
end Go.Proofs.Ytchikndofpkjmaa

namespace Go.Proofs.Ytchikndofpkjmaa

instance (n s q lo hi : Int) : Decidable (prtP n s q lo hi) := by unfold prtP; infer_instance
instance (g v : Int) : Decidable (valG g v) := by unfold valG; infer_instance
theorem okB_iff {g w c now seq : Int} {X : List Mrk} {j : Nat} : OkB g w c now seq X j ↔
    1 ≤ (X.getD j mk0).sq ∧ (X.getD j mk0).sq ≤ seq ∧ (X.getD j mk0).n = seq - (X.getD j mk0).sq + 1 ∧ (X.getD j mk0).n ≤ c ∧ (0 < j → (X.getD (j - 1) mk0).sq < (X.getD j mk0).sq) ∧
    (0 ≤ (X.getD j mk0).t ∧ (X.getD j mk0).t ≤ now) ∧ (0 < j → (X.getD (j - 1) mk0).t ≤ (X.getD j mk0).t) ∧ (0 < j ∨ X.length = 1 → now - w < (X.getD j mk0).t) ∧
    valG g (X.getD j mk0).lo ∧ valG g (X.getD j mk0).hi ∧ (X.getD j mk0).lo ≤ (X.getD j mk0).hi ∧ prtP (X.getD j mk0).n (X.getD j mk0).s (X.getD j mk0).q (X.getD j mk0).lo (X.getD j mk0).hi ∧
    (j + 1 = X.length → (X.getD j mk0).sq = seq ∧ (X.getD j mk0).lo = (X.getD j mk0).s ∧ (X.getD j mk0).hi = (X.getD j mk0).s ∧ (X.getD j mk0).q = (X.getD j mk0).s * (X.getD j mk0).s) ∧
    (0 < j → (X.getD (j - 1) mk0).lo ≤ (X.getD j mk0).lo) ∧ (0 < j → (X.getD j mk0).hi ≤ (X.getD (j - 1) mk0).hi) ∧
    (0 < j → prtP ((X.getD (j - 1) mk0).n - (X.getD j mk0).n) ((X.getD (j - 1) mk0).s - (X.getD j mk0).s) ((X.getD (j - 1) mk0).q - (X.getD j mk0).q) (X.getD (j - 1) mk0).lo (X.getD (j - 1) mk0).hi) :=
  ⟨fun h => ⟨h.sq1, h.sq2, h.num, h.few, h.asc, h.tk, h.tasc, h.live, h.lo, h.hi, h.lohi, h.prt, h.last, h.nlo, h.nhi, h.nprt⟩,
   fun ⟨a1, a2, a3, a4, a5, a6, a7, a8, a9, a10, a11, a12, a13, a14, a15, a16⟩ => ⟨a1, a2, a3, a4, a5, a6, a7, a8, a9, a10, a11, a12, a13, a14, a15, a16⟩⟩
instance (g w c now seq : Int) (X : List Mrk) (j : Nat) : Decidable (OkB g w c now seq X j) := decidable_of_iff' _ okB_iff
/-- Conditions 5 and 6 at a place. -/
def adP (g k : Int) (X : List Mrk) (j : Nat) : Prop :=
  (1 < j → (k + 1) * ofZ g (X.getD j mk0) < k * ofZ g (X.getD (j - 2) mk0)) ∧ (0 < j → (X.getD (j - 1) mk0).sq + 1 < (X.getD j mk0).sq → k * ofZ g (X.getD (j - 1) mk0) ≤ (k + 1) * ofZ g (X.getD j mk0))
instance (g k : Int) (X : List Mrk) (j : Nat) : Decidable (adP g k X j) := by unfold adP; infer_instance
/-- Parameters, marks, valid states, what Validate returns. -/
def agB (g : Int) : Bool := decide (1 ≤ g ∧ g ≤ 4)
def mayM (g w k c now : Int) : Bool := agB g && mayC w k c now
def sqB (seq : Int) : Bool := decide (0 ≤ seq ∧ seq ≤ 1099511627776)
def mrkB (g w c now seq : Int) (X : List Mrk) : Bool := sqB seq && decide (∀ j, j < X.length → OkB g w c now seq X j)
def adB (g k : Int) (X : List Mrk) : Bool := decide (∀ j, j < X.length → adP g k X j)
def stM (g w k c now seq : Int) (X : List Mrk) : Bool := mayM g w k c now && (mrkB g w c now seq X && adB g k X)
def stME (g w k c now seq : Int) (X : List Mrk) : Int := if stM g w k c now seq X = true then 0 else 2
theorem stME_yes {g w k c now seq : Int} {X : List Mrk} (h : stM g w k c now seq X = true) : stME g w k c now seq X = 0 := if_pos h
theorem stME_no {g w k c now seq : Int} {X : List Mrk} (h : stM g w k c now seq X = false) : stME g w k c now seq X = 2 := if_neg (by rw [h]; exact Bool.false_ne_true)
theorem agB_true {g : Int} (h : agB g = true) : 1 ≤ g ∧ g ≤ 4 := of_decide_eq_true h
theorem sqB_true {s : Int} (h : sqB s = true) : 0 ≤ s ∧ s ≤ 1099511627776 := of_decide_eq_true h
theorem mayM_true {g w k c now : Int} (h : mayM g w k c now = true) : (1 ≤ g ∧ g ≤ 4) ∧ mayC w k c now = true := by
  unfold mayM at h
  rw [Bool.and_eq_true] at h
  exact ⟨agB_true h.1, h.2⟩
theorem mrkB_true {g w c now seq : Int} {X : List Mrk} (h : mrkB g w c now seq X = true) : (0 ≤ seq ∧ seq ≤ 1099511627776) ∧ ∀ j, j < X.length → OkB g w c now seq X j := by
  unfold mrkB at h
  rw [Bool.and_eq_true, decide_eq_true_eq] at h
  exact ⟨sqB_true h.1, h.2⟩
theorem stM_true {g w k c now seq : Int} {X : List Mrk} (h : stM g w k c now seq X = true) : mayM g w k c now = true ∧ mrkB g w c now seq X = true ∧ adB g k X = true := by
  unfold stM at h
  rw [Bool.and_eq_true, Bool.and_eq_true] at h
  exact ⟨h.1, h.2.1, h.2.2⟩
theorem stM_yes {g w k c now seq : Int} {X : List Mrk} (h1 : mayM g w k c now = true) (h2 : mrkB g w c now seq X = true) (h3 : adB g k X = true) : stM g w k c now seq X = true := by
  unfold stM; rw [h1, h2, h3]; rfl
theorem mrkB_yes {g w c now seq : Int} {X : List Mrk} (h1 : 0 ≤ seq) (h2 : seq ≤ 1099511627776) (h3 : ∀ j, j < X.length → OkB g w c now seq X j) : mrkB g w c now seq X = true := by
  unfold mrkB sqB; rw [decide_eq_true (p := 0 ≤ seq ∧ seq ≤ 1099511627776) ⟨h1, h2⟩, decide_eq_true h3]; rfl
theorem mrkB_bad {g w c now seq : Int} {X : List Mrk} {j : Nat} (hj : j < X.length) (h : ¬ OkB g w c now seq X j) : mrkB g w c now seq X = false := by
  unfold mrkB; rw [decide_eq_false (fun hp => h (hp j hj)), Bool.and_false]
theorem adB_bad {g k : Int} {X : List Mrk} {j : Nat} (hj : j < X.length) (h : ¬ adP g k X j) : adB g k X = false := decide_eq_false (fun hp => h (hp j hj))
theorem prt_bd {n s q lo hi : Int} (h : prtP n s q lo hi) (h0 : 0 ≤ n) (h1 : -4096 ≤ lo) (h2 : hi ≤ 4096) : -(n * 4096) ≤ s ∧ s ≤ n * 4096 ∧ 0 ≤ q ∧ q ≤ n * 16777216 := by
  obtain ⟨a, b, c, d, e⟩ := h
  have e1 : n * (-4096) ≤ n * lo := Int.mul_le_mul_of_nonneg_left h1 h0
  have e2 : n * hi ≤ n * 4096 := Int.mul_le_mul_of_nonneg_left h2 h0
  exact ⟨by omega, by omega, c, by omega⟩
/-- How great the numbers of a valid mark are. -/
theorem OkB.bd {g w c now seq : Int} {X : List Mrk} {j : Nat} (h : OkB g w c now seq X j) (hc : c ≤ 65536) (hs : seq ≤ 1099511627776) : (1 ≤ (X.getD j mk0).n ∧ (X.getD j mk0).n ≤ 65536) ∧ (-268435456 ≤ (X.getD j mk0).s ∧ (X.getD j mk0).s ≤ 268435456) ∧ (0 ≤ (X.getD j mk0).q ∧ (X.getD j mk0).q ≤ 1099511627776) ∧ (-4096 ≤ (X.getD j mk0).lo ∧ (X.getD j mk0).lo ≤ 4096) ∧ (-4096 ≤ (X.getD j mk0).hi ∧ (X.getD j mk0).hi ≤ 4096) ∧ (1 ≤ (X.getD j mk0).sq ∧ (X.getD j mk0).sq ≤ 1099511627776) := by
  have h1 := h.num
  have h2 := h.few
  have h3 := h.sq2
  have h0 := h.sq1
  have h4 := h.lo
  have h5 := h.hi
  obtain ⟨a, b, c', d⟩ := prt_bd h.prt (by omega) h.lo.1 h.hi.2.1
  exact ⟨⟨by omega, by omega⟩, ⟨by omega, by omega⟩, ⟨c', by omega⟩, ⟨h4.1, h4.2.1⟩, ⟨h5.1, h5.2.1⟩, ⟨h0, by omega⟩⟩
def clM (g k : Int) (a b : Mrk) : Bool := decide (k * ofZ g a ≤ (k + 1) * ofZ g b)
def inM (seq now v : Int) (X : List Mrk) : List Mrk := X.map (incM v) ++ [oneM seq now v]
def adM (g k seq now v : Int) (X : List Mrk) : List Mrk := prL (clM g k) (X.length + 1) (inM (seq + 1) now v X)
def fuM (c seq : Int) (X : List Mrk) : Bool := (decide (0 < X.length) && decide ((X.getD 0 mk0).n = c)) || decide (seq = 1099511627776)
section
variable {g w k c now : Int} {P : List Nat} {I : List It}
end
end Go.Proofs.Ytchikndofpkjmaa

namespace Go.Proofs.Ytchikndofpkjmaa

/-- The answer: from, to. -/
def asM (g now w : Int) : List Mrk → Int × Int
  | [] => (0, 0)
  | a :: R => if liveB now w a.t = true then (ofZ g a, ofZ g a) else match R with
    | [] => (0, 0)
    | b :: _ => if b.sq = a.sq + 1 then (ofZ g b, ofZ g b) else (ofZ g b, ofZ g a)
section
variable {g w k c now : Int} {P : List Nat} {I : List It}
end
end Go.Proofs.Ytchikndofpkjmaa

namespace Go.Proofs.Ytchikndofpkjmaa

theorem getD_drop' {α : Type} (L : List α) (a b : Nat) (d : α) : (L.drop a).getD b d = L.getD (a + b) d := by
  rw [List.getD_eq_getElem?_getD, List.getD_eq_getElem?_getD, List.getElem?_drop]
theorem cutL_pru {α : Type} {f : α → Bool} {L : List α} (d : α) {i nx : Nat} (h1 : i + 1 ≤ nx) (h2 : nx < L.length ∨ nx = i + 1) (h3 : i + 1 < nx → f (L.getD nx d) = true) (h4 : ∀ j, nx < j → j < L.length → f (L.getD j d) = false) : cutL f (L.drop (i + 1)) = L.drop nx := by
  by_cases hx : nx = i + 1
  · subst hx
    by_cases hl : i + 1 < L.length
    · cases hf : f (L.getD (i + 1) d) with
      | true =>
        have := cutL_at (f := f) d (R := L.drop (i + 1)) (m := 0) (by rw [List.length_drop]; omega) (by rw [getD_drop']; exact hf) (fun n g1 g2 => by rw [getD_drop']; rw [List.length_drop] at g2; exact h4 _ (by omega) (by omega))
        rwa [List.drop_zero] at this
      | false =>
        refine cutL_none (fun y hy => ?_)
        obtain ⟨n, hn, rfl⟩ := List.mem_iff_getElem.1 hy
        rw [List.length_drop] at hn
        rw [List.getElem_drop]
        have e : L[i + 1 + n]'(by omega) = L.getD (i + 1 + n) d := by rw [List.getD_eq_getElem?_getD, List.getElem?_eq_getElem (by omega)]; rfl
        rw [e]
        rcases Nat.eq_zero_or_pos n with e0 | e0
        · subst e0; exact hf
        · exact h4 _ (by omega) (by omega)
    · rw [List.drop_eq_nil_of_le (by omega)]
      rfl
  · have hl : nx < L.length := by omega
    have := cutL_at (f := f) d (R := L.drop (i + 1)) (m := nx - (i + 1)) (by rw [List.length_drop]; omega) (by rw [getD_drop', show i + 1 + (nx - (i + 1)) = nx by omega]; exact h3 (by omega)) (fun n g1 g2 => by rw [getD_drop']; rw [List.length_drop] at g2; exact h4 _ (by omega) (by omega))
    rw [this, List.drop_drop, show i + 1 + (nx - (i + 1)) = nx by omega]
theorem anti_of_adj {f : Nat → Int} {n : Nat} (h : ∀ j, j + 1 < n → f (j + 1) ≤ f j) : ∀ d i, i + d < n → f (i + d) ≤ f i := by
  intro d
  induction d with
  | zero => intro i _; exact Int.le_refl _
  | succ d ih => intro i hi; exact Int.le_trans (h (i + d) (by omega)) (ih i (by omega))
theorem inM_get {s t v : Int} {X : List Mrk} {j : Nat} (h : j < X.length) : (inM s t v X).getD j mk0 = incM v (X.getD j mk0) := by
  unfold inM
  rw [List.getD_eq_getElem?_getD, List.getElem?_append_left (by rw [List.length_map]; exact h), List.getElem?_map, List.getD_eq_getElem?_getD, List.getElem?_eq_getElem h]
  rfl
theorem inM_last (s t v : Int) (X : List Mrk) : (inM s t v X).getD X.length mk0 = oneM s t v := by
  unfold inM
  rw [List.getD_eq_getElem?_getD, List.getElem?_append_right (by simp)]
  simp
theorem ofZ4 {a b c d e lo hi : Int} (h1 : -4096 ≤ lo) (h2 : lo ≤ 4096) (h3 : -4096 ≤ hi) (h4 : hi ≤ 4096) : ofZ 4 ⟨a, b, c, d, e, lo, hi⟩ = hi - lo := by
  have e : fit64 (hi - lo) = true := decide_eq_true (by omega)
  show (if fit64 (hi - lo) = true then hi - lo else 0) = _
  rw [if_pos e]
theorem min_b {x v : Int} (h1 : -4096 ≤ x) (h2 : x ≤ 4096) (h3 : -4096 ≤ v) (h4 : v ≤ 4096) : -4096 ≤ min x v ∧ min x v ≤ 4096 ∧ -4096 ≤ max x v ∧ max x v ≤ 4096 := by omega
/-- No aggregate rises from mark to mark, behind one more item. -/
theorem inM_anti {g w c now seq v s t : Int} {X : List Mrk} (hg : 1 ≤ g ∧ g ≤ 4) (h : ∀ j, j < X.length → OkB g w c now seq X j) (hv : valG g v) {i j : Nat} (hij : i ≤ j) (hj : j < X.length + 1) : ofZ g ((inM s t v X).getD j mk0) ≤ ofZ g ((inM s t v X).getD i mk0) := by
  have main := anti_of_adj (f := fun j => ofZ g ((inM s t v X).getD j mk0)) (n := X.length + 1) (fun j hj => by
    show ofZ g ((inM s t v X).getD (j + 1) mk0) ≤ ofZ g ((inM s t v X).getD j mk0)
    have ha := h j (by omega)
    rw [inM_get (show j < X.length by omega)]
    have a1 := ha.lo
    have a2 := ha.hi
    have a3 := ha.prt
    have a4 := ha.num
    have a5 := ha.sq2
    have hga : g = 1 ∨ g = 2 ∨ g = 3 ∨ g = 4 := by omega
    by_cases hl : j + 1 < X.length
    · rw [inM_get hl]
      have hb := h (j + 1) hl
      have b0 := hb.asc (by omega)
      have b1 := hb.lo
      have b2 := hb.hi
      have b3 := hb.num
      have b4 := hb.nlo (by omega)
      have b5 := hb.nhi (by omega)
      have b6 := hb.nprt (by omega)
      rw [Nat.add_sub_cancel] at b0 b4 b5 b6
      generalize X.getD (j + 1) mk0 = B at *
      generalize X.getD j mk0 = A at *
      obtain ⟨p1, p2, p3, p4, p5⟩ := b6
      rcases hga with rfl | rfl | rfl | rfl
      · show B.n + 1 ≤ A.n + 1; omega
      · show B.s + v ≤ A.s + v
        have := a1.2.2
        have : 0 ≤ (A.n - B.n) * A.lo := Int.mul_nonneg (by omega) (by omega)
        omega
      · show B.q + v * v ≤ A.q + v * v; omega
      · obtain ⟨v1, v2, _⟩ := hv
        obtain ⟨u1, u2, _⟩ := a1
        obtain ⟨u3, u4, _⟩ := a2
        obtain ⟨u5, u6, _⟩ := b1
        obtain ⟨u7, u8, _⟩ := b2
        have m1 := min_b u1 u2 v1 v2
        have m2 := min_b u3 u4 v1 v2
        have m3 := min_b u5 u6 v1 v2
        have m4 := min_b u7 u8 v1 v2
        unfold incM
        rw [ofZ4 m3.1 m3.2.1 m4.2.2.1 m4.2.2.2, ofZ4 m1.1 m1.2.1 m2.2.2.1 m2.2.2.2]
        omega
    · have hx : j + 1 = X.length := by omega
      rw [hx, inM_last]
      generalize X.getD j mk0 = A at *
      obtain ⟨p1, p2, p3, p4, p5⟩ := a3
      rcases hga with rfl | rfl | rfl | rfl
      · show (1 : Int) ≤ A.n + 1; omega
      · show v ≤ A.s + v
        have := a1.2.2
        have : 0 ≤ A.n * A.lo := Int.mul_nonneg (by omega) (by omega)
        omega
      · show v * v ≤ A.q + v * v; omega
      · obtain ⟨v1, v2, _⟩ := hv
        obtain ⟨u1, u2, _⟩ := a1
        obtain ⟨u3, u4, _⟩ := a2
        have m1 := min_b u1 u2 v1 v2
        have m2 := min_b u3 u4 v1 v2
        unfold incM oneM
        rw [ofZ4 v1 v2 v1 v2, ofZ4 m1.1 m1.2.1 m2.2.2.1 m2.2.2.2]
        omega)
  have := main (j - i) i (by omega)
  rw [show i + (j - i) = j by omega] at this
  exact this
/-- What is not close, is not close further on. -/
theorem clM_anti {g k : Int} {a b c : Mrk} (hk : 1 ≤ k) (h : ofZ g c ≤ ofZ g b) (hc : clM g k a b = false) : clM g k a c = false := by
  unfold clM at *
  rw [decide_eq_false_iff_not] at *
  intro hx
  refine hc (Int.le_trans hx (Int.mul_le_mul_of_nonneg_left h (by omega)))
/-- How great the aggregates are behind one more item. -/
theorem inM_bd {g w c now seq v s t : Int} {X : List Mrk} (hg : 1 ≤ g ∧ g ≤ 4) (hc : c ≤ 65536) (hs : seq ≤ 1099511627776) (h : ∀ j, j < X.length → OkB g w c now seq X j) (hv : valG g v) {j : Nat} (hj : j < X.length + 1) : -1152921504606846976 ≤ ofZ g ((inM s t v X).getD j mk0) * 65 ∧ ofZ g ((inM s t v X).getD j mk0) * 65 ≤ 1152921504606846976 := by
  obtain ⟨v1, v2, _⟩ := hv
  have vv := sq_bd (x := v) (m := 4096) (by omega) v2
  have vn := sq_nn v
  have hga : g = 1 ∨ g = 2 ∨ g = 3 ∨ g = 4 := by omega
  by_cases hl : j < X.length
  · rw [inM_get hl]
    obtain ⟨⟨n1, n2⟩, ⟨s1, s2⟩, ⟨q1, q2⟩, ⟨l1, l2⟩, ⟨h1, h2⟩, _⟩ := (h j hl).bd hc hs
    generalize X.getD j mk0 = A at *
    rcases hga with rfl | rfl | rfl | rfl
    · show _ ≤ (A.n + 1) * 65 ∧ (A.n + 1) * 65 ≤ _; omega
    · show _ ≤ (A.s + v) * 65 ∧ (A.s + v) * 65 ≤ _; omega
    · show _ ≤ (A.q + v * v) * 65 ∧ (A.q + v * v) * 65 ≤ _
      generalize v * v = y at *
      omega
    · have m1 := min_b l1 l2 v1 v2
      have m2 := min_b h1 h2 v1 v2
      unfold incM
      rw [ofZ4 m1.1 m1.2.1 m2.2.2.1 m2.2.2.2]
      omega
  · have hx : j = X.length := by omega
    rw [hx, inM_last]
    rcases hga with rfl | rfl | rfl | rfl
    · show _ ≤ (1 : Int) * 65 ∧ (1 : Int) * 65 ≤ _; omega
    · show _ ≤ v * 65 ∧ v * 65 ≤ _; omega
    · show _ ≤ (v * v) * 65 ∧ (v * v) * 65 ≤ _
      generalize v * v = y at *
      omega
    · unfold oneM
      rw [ofZ4 v1 v2 v1 v2]
      omega
end Go.Proofs.Ytchikndofpkjmaa
