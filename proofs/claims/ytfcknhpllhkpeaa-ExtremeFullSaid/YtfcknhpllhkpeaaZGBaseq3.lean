/- Texts of these claims, one after the other. -/
import Derived.Test.YtfcknhpllhkpeaaRows
import Derived.Test.YtfcknhpllhkpeaaZWMathq0
namespace Go.Proofs.Ytfcknhpllhkpeaa
open Go.RowKit

theorem Up.ownGe {w w' : World} (h : Up w w') {g : Nat} (hg : w.heap.size ≤ g) (o : Nat) : w'.frozen? ⟨g, o, none⟩ = false := by
  obtain ⟨b, rfl⟩ := Nat.le.dest hg
  exact h.own b o
/-- Pairs of int64, and their cells. -/
abbrev It := Int × Int
def fl : List It → List Value
  | [] => []
  | p :: L => .int .i64 p.1 :: .int .i64 p.2 :: fl L
theorem fl_length (L : List It) : (fl L).length = L.length * 2 := by
  induction L with
  | nil => rfl
  | cons p L ih => simp [fl, ih]; omega
theorem fl_append (L M : List It) : fl (L ++ M) = fl L ++ fl M := by
  induction L with
  | nil => rfl
  | cons p L ih => simp [fl, ih]
theorem fl_get0 (L : List It) (k : Nat) (h : k < L.length) : (fl L)[k * 2]? = some (.int .i64 (L[k]).1) := by
  induction L generalizing k with
  | nil => simp at h
  | cons p L ih =>
    cases k with
    | zero => rfl
    | succ k => rw [show (k + 1) * 2 = k * 2 + 1 + 1 by omega]; simpa [fl] using ih k (by simpa using h)
theorem fl_get1 (L : List It) (k : Nat) (h : k < L.length) : (fl L)[k * 2 + 1]? = some (.int .i64 (L[k]).2) := by
  induction L generalizing k with
  | nil => simp at h
  | cons p L ih =>
    cases k with
    | zero => rfl
    | succ k => rw [show (k + 1) * 2 + 1 = k * 2 + 1 + 1 + 1 by omega]; simpa [fl] using ih k (by simpa using h)
theorem fl_one (L : List It) : ∀ u ∈ fl L, u.oneCell' = true := by
  induction L with
  | nil => intro u hu; cases hu
  | cons p L ih =>
    intro u hu
    simp only [fl, List.mem_cons] at hu
    rcases hu with rfl | rfl | hu
    · rfl
    · rfl
    · exact ih u hu
theorem fl_take (L : List It) (k : Nat) : (fl L).take (k * 2) = fl (L.take k) := by
  induction L generalizing k with
  | nil => simp [fl]
  | cons p L ih =>
    cases k with
    | zero => rfl
    | succ k => rw [show (k + 1) * 2 = k * 2 + 1 + 1 by omega]; simpa [fl] using ih k
theorem fl_set (L : List It) (k : Nat) (p : It) : ((fl L).set (k * 2) (.int .i64 p.1)).set (k * 2 + 1) (.int .i64 p.2) = fl (L.set k p) := by
  induction L generalizing k with
  | nil => simp [fl]
  | cons q L ih =>
    cases k with
    | zero => rfl
    | succ k => rw [show (k + 1) * 2 = k * 2 + 1 + 1 by omega]; simpa [fl] using ih k

/-- A slice that reads as the list L. -/
def Sl (w : World) (A : Option Addr) (n : Nat) (L : List It) : Prop :=
  L.length = n ∧ (0 < n → ∃ b o, A = some ⟨b, o, none⟩ ∧ ∀ j u, (fl L)[j]? = some u → w.cell? ⟨b, o + j, none⟩ = some u)
theorem Sl.none_ {w : World} {A : Option Addr} : Sl w A 0 [] := ⟨rfl, fun h => absurd h (by omega)⟩
theorem Sl.at_ {w : World} {A : Option Addr} {n : Nat} {L : List It} (h : Sl w A n L) {k : Nat} (hk : k < n) :
    ∃ b o, A = some ⟨b, o, none⟩ ∧ w.cell? ⟨b, o + k * 2, none⟩ = some (.int .i64 (L.getD k (0, 0)).1) ∧ w.cell? ⟨b, o + k * 2 + 1, none⟩ = some (.int .i64 (L.getD k (0, 0)).2) := by
  obtain ⟨b, o, e, hc⟩ := h.2 (by omega)
  have hl : k < L.length := by rw [h.1]; exact hk
  refine ⟨b, o, e, ?_, ?_⟩
  · rw [hc _ _ (fl_get0 L k hl)]; simp [List.getD, hl]
  · rw [Nat.add_assoc, hc _ _ (fl_get1 L k hl)]; simp [List.getD, hl]
theorem Sl.up {w w' : World} {A : Option Addr} {n : Nat} {L : List It} (h : Sl w A n L) (hu : Up w w') : Sl w' A n L :=
  ⟨h.1, fun hn => by
    obtain ⟨b, o, e, hc⟩ := h.2 hn
    exact ⟨b, o, e, fun j u hj => hu.keep _ _ _ (hc j u hj)⟩⟩
/-- Block g is just the cells cs of element type t. -/
def Blk (w : World) (g : Nat) (t : TypeId) (cs : Array Value) : Prop := w.heap[g]? = some (.cells cs t (0, 0))
section
variable {w w' : World} {g : Nat} {t : TypeId} {cs : Array Value}
theorem Blk.lt (h : Blk w g t cs) : g < w.heap.size := by
  rcases Nat.lt_or_ge g w.heap.size with hlt | hge
  · exact hlt
  · unfold Blk at h; rw [Array.getElem?_eq_none hge] at h; cases h
theorem Blk.cell (h : Blk w g t cs) (i : Nat) : w.cell? ⟨g, i, none⟩ = cs[i]? := cell_of_row w g i cs t (0, 0) h
theorem Blk.frozen (h : Blk w g t cs) (i : Nat) : w.frozen? ⟨g, i, none⟩ = false := by
  unfold Blk at h
  simp [World.frozen?, h]
theorem Blk.new (w : World) (t : TypeId) (cs : Array Value) : Blk (w.alloc (.cells cs t)) w.heap.size t cs := heap_alloc_new w _
theorem Blk.drew (h : Blk w g t cs) : Blk w.drew g t cs := h
theorem Blk.drewN (h : Blk w g t cs) (n : Nat) : Blk (w.drewN n) g t cs := h
theorem Blk.alloc (h : Blk w g t cs) (o : Obj) : Blk (w.alloc o) g t cs := (Below.heap_alloc w o g h.lt).trans h
theorem Blk.set_ (h : Blk w g t cs) (i : Nat) (u : Value) : Blk (w.setCell ⟨g, i, none⟩ u) g t (cs.setIfInBounds i u) := by
  unfold Blk at h ⊢
  simp [World.setCell, Array.getElem?_modify, h]
theorem Blk.far (h : Blk w g t cs) {p : Addr} (hp : g ≠ p.block) (u : Value) : Blk (w.setCell p u) g t cs := (Below.heap_setCell w p u g hp).trans h
theorem Blk.up (h : Blk w g t cs) (hu : Up w w') : Blk w' g t cs := (hu.below.block g h.lt).trans h
end
/-- A block of items. -/
def Bi (w : World) (g : Nat) (L : List It) : Prop := Blk w g 41 (fl L).toArray
theorem Bi.sl {w : World} {g n : Nat} {L : List It} (h : Bi w g L) (hn : L.length = n) : Sl w (some ⟨g, 0, none⟩) n L :=
  ⟨hn, fun _ => ⟨g, 0, rfl, fun j u hj => by rw [Nat.zero_add, Blk.cell h j]; simpa using hj⟩⟩
theorem Bi.up {w w' : World} {g : Nat} {L : List It} (h : Bi w g L) (hu : Up w w') : Bi w' g L := Blk.up h hu
theorem Bi.at_ {w : World} {g : Nat} {L : List It} (h : Bi w g L) {k : Nat} (hk : k < L.length) :
    w.cell? ⟨g, k * 2, none⟩ = some (.int .i64 (L.getD k (0, 0)).1) ∧ w.cell? ⟨g, k * 2 + 1, none⟩ = some (.int .i64 (L.getD k (0, 0)).2) := by
  refine ⟨?_, ?_⟩
  · rw [Blk.cell h]; simp [fl_get0 L k hk, List.getD, hk]
  · rw [Blk.cell h]; simp [fl_get1 L k hk, List.getD, hk]
theorem Bi.set_ {w : World} {g : Nat} {L : List It} (h : Bi w g L) (k : Nat) (a b : Int) :
    Bi ((w.setCell ⟨g, k * 2, none⟩ (.int .i64 a)).setCell ⟨g, k * 2 + 1, none⟩ (.int .i64 b)) g (L.set k (a, b)) := by
  have h1 := Blk.set_ (Blk.set_ h (k * 2) (.int .i64 a)) (k * 2 + 1) (.int .i64 b)
  unfold Bi
  rw [← fl_set]
  simpa using h1

end Go.Proofs.Ytfcknhpllhkpeaa

namespace Go.Proofs.Ytfcknhpllhkpeaa
open Go.RowKit

theorem fl_drop (L : List It) (k : Nat) : (fl L).drop (k * 2) = fl (L.drop k) := by
  induction L generalizing k with
  | nil => simp [fl]
  | cons p L ih =>
    cases k with
    | zero => rfl
    | succ k => rw [show (k + 1) * 2 = k * 2 + 1 + 1 by omega]; simpa [fl] using ih k
/-- The cells s[k:], where A' is what the model makes of the address. -/
theorem Sl.cut {w : World} {A : Option Addr} {n : Nat} {L : List It} (h : Sl w A n L) {k cap : Nat} (hk : k ≤ n) (hc : n ≤ cap) :
    Sl w (if cap = k then A else A.map (·.add (k * 2))) (n - k) (L.drop k) := by
  refine ⟨by rw [List.length_drop, h.1], fun hn => ?_⟩
  obtain ⟨b, o, rfl, hcell⟩ := h.2 (by omega)
  rw [if_neg (by omega)]
  refine ⟨b, o + k * 2, by simp [add_at], fun j u hu => ?_⟩
  rw [Nat.add_assoc]
  exact hcell _ u (by rw [← fl_drop, List.getElem?_drop] at hu; exact hu)
theorem Sl.first {w : World} {A : Option Addr} {n : Nat} {L : List It} (h : Sl w A n L) {k : Nat} (hk : k ≤ n) : Sl w A k (L.take k) := by
  refine ⟨by rw [List.length_take, h.1]; omega, fun hn => ?_⟩
  obtain ⟨b, o, rfl, hcell⟩ := h.2 (by omega)
  refine ⟨b, o, rfl, fun j u hu => hcell j u ?_⟩
  rw [← fl_take, List.getElem?_take] at hu
  split at hu
  · exact hu
  · cases hu

section
variable {w w' : World} {g : Nat} {t : TypeId} {cs : Array Value}
end
end Go.Proofs.Ytfcknhpllhkpeaa

namespace Go.Proofs.Ytfcknhpllhkpeaa

/-- A value whose order is turned for the least. -/
def sgE (mx : Bool) (v : Int) : Int := if mx = true then v else -v
theorem sgE_inj {mx : Bool} {a b : Int} (h : sgE mx a = sgE mx b) : a = b := by
  unfold sgE at h; cases mx <;> simp at h <;> omega
/-- y rules out x. -/
def rulE (mx : Bool) (y x : It) : Prop := x.1 ≤ y.1 ∧ sgE mx x.2 ≤ sgE mx y.2
instance rulE_dec (mx : Bool) (y x : It) : Decidable (rulE mx y x) := inferInstanceAs (Decidable (x.1 ≤ y.1 ∧ sgE mx x.2 ≤ sgE mx y.2))
theorem rulE.refl (mx : Bool) (x : It) : rulE mx x x := ⟨Int.le_refl _, Int.le_refl _⟩
theorem rulE.trans {mx : Bool} {x y z : It} (h : rulE mx x y) (g : rulE mx y z) : rulE mx x z := ⟨Int.le_trans g.1 h.1, Int.le_trans g.2 h.2⟩
theorem rulE.anti {mx : Bool} {x y : It} (h : rulE mx x y) (g : rulE mx y x) : x = y :=
  Prod.ext (Int.le_antisymm g.1 h.1) (sgE_inj (Int.le_antisymm g.2 h.2))
/-- An item of L that no other one rules out. -/
def mxE (mx : Bool) (L : List It) (x : It) : Prop := x ∈ L ∧ ∀ y ∈ L, rulE mx y x → y = x
/-- Each item is ruled out by one that stays. -/
theorem mxE_dom (mx : Bool) : ∀ {L : List It} {y : It}, y ∈ L → ∃ z, mxE mx L z ∧ rulE mx z y := by
  intro L
  induction L with
  | nil => intro y h; cases h
  | cons x L ih =>
    -- one that stays in L and is not ruled out by x stays
    have stay : ∀ z, mxE mx L z → (rulE mx x z → x = z) → mxE mx (x :: L) z := fun z hz hx =>
      ⟨List.mem_cons_of_mem _ hz.1, fun y hy hr => by
        rcases List.mem_cons.1 hy with e | e
        · subst e; exact hx hr
        · exact hz.2 y e hr⟩
    -- x stays if it rules out one that stays in L and is another
    have new : ∀ z, mxE mx L z → rulE mx x z → x ≠ z → mxE mx (x :: L) x := fun z hz hr hn =>
      ⟨List.mem_cons_self, fun y hy hq => by
        rcases List.mem_cons.1 hy with e | e
        · exact e
        · have := hz.2 y e (hq.trans hr)
          subst this
          exact hq.anti hr⟩
    intro y hy
    rcases List.mem_cons.1 hy with e | e
    · subst e
      by_cases h : ∃ v, v ∈ L ∧ rulE mx v y ∧ v ≠ y
      · obtain ⟨v, hv, hr, hn⟩ := h
        obtain ⟨z, hz, hzv⟩ := ih hv
        refine ⟨z, stay z hz (fun g => ?_), hzv.trans hr⟩
        exact absurd ((hzv.anti (hr.trans g)) ▸ hr.anti (g.trans hzv)) hn
      · refine ⟨y, ⟨List.mem_cons_self, fun v hv hr => ?_⟩, rulE.refl mx y⟩
        rcases List.mem_cons.1 hv with g | g
        · exact g
        · exact Classical.byContradiction (fun q => h ⟨v, g, hr, q⟩)
    · obtain ⟨z, hz, hzy⟩ := ih e
      by_cases h : rulE mx x z → x = z
      · exact ⟨z, stay z hz h, hzy⟩
      · have hr : rulE mx x z := Classical.byContradiction (fun q => h (fun g => absurd g q))
        have hn : x ≠ z := fun g => h (fun _ => g)
        exact ⟨x, new z hz hr hn, hr.trans hzy⟩
/-- K has exactly the items of L that stay, by ascending ticks. -/
def KdE (mx : Bool) (K L : List It) : Prop := K.Pairwise (fun x y => x.1 < y.1) ∧ ∀ x, x ∈ K ↔ mxE mx L x
/-- Values descend (ascend for the least). -/
theorem KdE.desc {mx : Bool} {K L : List It} (h : KdE mx K L) : K.Pairwise (fun x y => x.1 < y.1 ∧ sgE mx y.2 < sgE mx x.2) := by
  refine List.Pairwise.imp_of_mem (fun {x y} hx hy hxy => ⟨hxy, ?_⟩) h.1
  rcases Int.lt_or_le (sgE mx y.2) (sgE mx x.2) with g | g
  · exact g
  · have := ((h.2 x).1 hx).2 y ((h.2 y).1 hy).1 ⟨Int.le_of_lt hxy, g⟩
    subst this; omega
/-- What Add makes: the items with better values, then the new one unless one of its tick is left. -/
def poE (mx : Bool) (v : Int) (K : List It) : List It := K.filter (fun x => decide (sgE mx v < sgE mx x.2))
def adE (mx : Bool) (now v : Int) (K : List It) : List It := if (poE mx v K).any (fun x => decide (x.1 = now)) = true then poE mx v K else poE mx v K ++ [(now, v)]
theorem KdE.add {mx : Bool} {now v : Int} {K : List It} (h : KdE mx K K) (hn : ∀ x ∈ K, x.1 ≤ now) : KdE mx (adE mx now v K) (K ++ [(now, v)]) := by
  have hd := h.desc
  have hmem : ∀ x, x ∈ poE mx v K ↔ x ∈ K ∧ sgE mx v < sgE mx x.2 := fun x => by unfold poE; rw [List.mem_filter, decide_eq_true_eq]
  have hp : (poE mx v K).Pairwise (fun x y => x.1 < y.1) := h.1.filter _
  have old : ∀ x, x ∈ poE mx v K → mxE mx (K ++ [(now, v)]) x := fun x hx => by
    obtain ⟨h1, h2⟩ := (hmem x).1 hx
    refine ⟨List.mem_append_left _ h1, fun y hy hr => ?_⟩
    rcases List.mem_append.1 hy with g | g
    · exact ((h.2 x).1 h1).2 y g hr
    · simp only [List.mem_singleton] at g; subst g; have := hr.2; exact absurd this (by show ¬ sgE mx x.2 ≤ sgE mx v; omega)
  have oldr : ∀ x, x ∈ K → mxE mx (K ++ [(now, v)]) x → x = (now, v) ∨ x ∈ poE mx v K := fun x hx hm => by
    by_cases g : sgE mx v < sgE mx x.2
    · exact Or.inr ((hmem x).2 ⟨hx, g⟩)
    · exact Or.inl (hm.2 (now, v) (by simp) ⟨hn x hx, by show sgE mx x.2 ≤ sgE mx v; omega⟩).symm
  unfold adE
  split
  · rename_i hany
    obtain ⟨z, hz, hz1⟩ := List.any_eq_true.1 hany
    have hz1 := of_decide_eq_true hz1
    refine ⟨hp, fun x => ⟨old x, fun hm => ?_⟩⟩
    have hne : x ≠ (now, v) := fun e => by
      subst e
      have := hm.2 z (List.mem_append_left _ ((hmem z).1 hz).1) ⟨by show now ≤ z.1; omega, Int.le_of_lt ((hmem z).1 hz).2⟩
      subst this
      have := ((hmem _).1 hz).2
      exact absurd this (Int.lt_irrefl _)
    rcases List.mem_append.1 hm.1 with g | g
    · rcases oldr x g hm with q | q
      · exact absurd q hne
      · exact q
    · exact absurd (List.mem_singleton.1 g) hne
  · rename_i hany
    have hlt : ∀ x ∈ poE mx v K, x.1 < now := fun x hx => by
      have h1 := hn x ((hmem x).1 hx).1
      have h2 : ¬ x.1 = now := fun e => hany (List.any_eq_true.2 ⟨x, hx, decide_eq_true e⟩)
      omega
    refine ⟨List.pairwise_append.2 ⟨hp, List.pairwise_singleton _ _, fun x hx y hy => ?_⟩, fun x => ⟨fun hx => ?_, fun hm => ?_⟩⟩
    · simp only [List.mem_singleton] at hy; subst hy; exact hlt x hx
    · rcases List.mem_append.1 hx with g | g
      · exact old x g
      · simp only [List.mem_singleton] at g; subst g
        refine ⟨by simp, fun y hy hr => ?_⟩
        rcases List.mem_append.1 hy with q | q
        · by_cases g : sgE mx v < sgE mx y.2
          · have h1 := hlt y ((hmem y).2 ⟨q, g⟩); have h2 := hr.1
            exact absurd h2 (by show ¬ now ≤ y.1; omega)
          · have h1 := hn y q
            exact rulE.anti hr ⟨h1, by show sgE mx y.2 ≤ sgE mx v; omega⟩
        · exact List.mem_singleton.1 q
    · rcases List.mem_append.1 hm.1 with g | g
      · rcases oldr x g hm with q | q
        · subst q; exact List.mem_append_right _ (by simp)
        · exact List.mem_append_left _ q
      · exact List.mem_append_right _ g
theorem KdE.nil {mx : Bool} {L : List It} (h : KdE mx [] L) : L = [] := by
  cases L with
  | nil => rfl
  | cons y L =>
    obtain ⟨z, hz, _⟩ := mxE_dom mx (List.mem_cons_self (a := y) (l := L))
    exact absurd ((h.2 z).2 hz) (by simp)
/-- The reference's list: each item that stays is put behind those with ticks that are not greater. -/
def keI (mx : Bool) (L : List It) (i : Nat) : Bool := (List.range L.length).all (fun j => decide (¬ (i ≠ j ∧ rulE mx (L.getD j (0, 0)) (L.getD i (0, 0)) ∧ (L.getD i (0, 0) ≠ L.getD j (0, 0) ∨ j < i))))
/-- x put behind those with ticks that are not greater. -/
def insE (x : It) (K : List It) : List It := K.filter (fun y => decide (y.1 ≤ x.1)) ++ x :: K.filter (fun y => decide (x.1 < y.1))
def keS (mx : Bool) (L : List It) : Nat → List It
  | 0 => []
  | n + 1 => if keI mx L n = true then insE (L.getD n (0, 0)) (keS mx L n) else keS mx L n
end Go.Proofs.Ytfcknhpllhkpeaa

namespace Go.Proofs.Ytfcknhpllhkpeaa

theorem asc_ext : ∀ {K K' : List It}, K.Pairwise (fun x y => x.1 < y.1) → K'.Pairwise (fun x y => x.1 < y.1) → (∀ x, x ∈ K ↔ x ∈ K') → K = K' := by
  intro K
  induction K with
  | nil =>
    intro K' _ _ h
    cases K' with
    | nil => rfl
    | cons y K' => exact absurd ((h y).2 List.mem_cons_self) (by simp)
  | cons x K ih =>
    intro K' h1 h2 h
    cases K' with
    | nil => exact absurd ((h x).1 List.mem_cons_self) (by simp)
    | cons y K' =>
      obtain ⟨a1, a2⟩ := List.pairwise_cons.1 h1
      obtain ⟨b1, b2⟩ := List.pairwise_cons.1 h2
      have e : x = y := by
        rcases List.mem_cons.1 ((h x).1 List.mem_cons_self) with e | e
        · exact e
        · rcases List.mem_cons.1 ((h y).2 List.mem_cons_self) with g | g
          · exact g.symm
          · have := b1 x e; have := a1 y g; omega
      subst e
      rw [ih a2 b2 (fun z => ?_)]
      constructor
      · intro hz
        rcases List.mem_cons.1 ((h z).1 (List.mem_cons_of_mem _ hz)) with e | e
        · subst e; have := a1 z hz; omega
        · exact e
      · intro hz
        rcases List.mem_cons.1 ((h z).2 (List.mem_cons_of_mem _ hz)) with e | e
        · subst e; have := b1 z hz; omega
        · exact e
theorem KdE.uniq {mx : Bool} {K K' L : List It} (h : KdE mx K L) (g : KdE mx K' L) : K = K' :=
  asc_ext h.1 g.1 (fun x => (h.2 x).trans (g.2 x).symm)
/-- A list that ascends in ticks and descends in values is its own. -/
theorem KdE.self {mx : Bool} {K : List It} (h : K.Pairwise (fun x y => x.1 < y.1 ∧ sgE mx y.2 < sgE mx x.2)) : KdE mx K K := by
  refine ⟨h.imp (fun hxy => hxy.1), fun x => ⟨fun hx => ⟨hx, fun y hy hr => ?_⟩, fun hx => hx.1⟩⟩
  induction K with
  | nil => cases hx
  | cons z K ih =>
    obtain ⟨h1, h2⟩ := List.pairwise_cons.1 h
    rcases List.mem_cons.1 hx with e | e <;> rcases List.mem_cons.1 hy with g | g
    · rw [e, g]
    · subst e; have := (h1 y g).2; have := hr.2; omega
    · subst g; have := (h1 x e).1; have := hr.1; omega
    · exact ih h2 e g
theorem keI_iff {mx : Bool} {L : List It} {i : Nat} : keI mx L i = true ↔ ∀ j, j < L.length → i ≠ j → rulE mx (L.getD j (0, 0)) (L.getD i (0, 0)) → L.getD i (0, 0) = L.getD j (0, 0) ∧ i ≤ j := by
  unfold keI
  rw [List.all_eq_true]
  constructor
  · intro h j hj hn hr
    have := of_decide_eq_true (h j (List.mem_range.2 hj))
    by_cases e : L.getD i (0, 0) = L.getD j (0, 0)
    · refine ⟨e, ?_⟩
      rcases Nat.lt_or_ge j i with g | g
      · exact absurd ⟨hn, hr, Or.inr g⟩ this
      · exact g
    · exact absurd ⟨hn, hr, Or.inl e⟩ this
  · intro h j hj
    refine decide_eq_true ?_
    rintro ⟨hn, hr, hq⟩
    obtain ⟨e, g⟩ := h j (List.mem_range.1 hj) hn hr
    rcases hq with q | q
    · exact q e
    · omega
theorem insE_mem {x y : It} {K : List It} : y ∈ insE x K ↔ y = x ∨ y ∈ K := by
  unfold insE
  rw [List.mem_append, List.mem_cons, List.mem_filter, List.mem_filter, decide_eq_true_eq, decide_eq_true_eq]
  constructor
  · rintro (⟨h, _⟩ | h | ⟨h, _⟩)
    · exact Or.inr h
    · exact Or.inl h
    · exact Or.inr h
  · rintro (h | h)
    · exact Or.inr (Or.inl h)
    · rcases Int.lt_or_le x.1 y.1 with g | g
      · exact Or.inr (Or.inr ⟨h, g⟩)
      · exact Or.inl ⟨h, g⟩
theorem insE_asc {x : It} {K : List It} (h : K.Pairwise (fun x y => x.1 < y.1)) (hn : ∀ y ∈ K, y.1 ≠ x.1) : (insE x K).Pairwise (fun x y => x.1 < y.1) := by
  unfold insE
  refine List.pairwise_append.2 ⟨h.filter _, List.pairwise_cons.2 ⟨fun y hy => ?_, h.filter _⟩, fun y hy z hz => ?_⟩
  · have := of_decide_eq_true (List.mem_filter.1 hy).2; omega
  · obtain ⟨h1, h2⟩ := List.mem_filter.1 hy
    have h2 := of_decide_eq_true h2
    have h3 := hn y h1
    rcases List.mem_cons.1 hz with e | e
    · subst e; omega
    · have := of_decide_eq_true (List.mem_filter.1 e).2; omega
/-- The place where the reference's loop from the back stops. -/
theorem insE_split {x : It} {K : List It} {k : Nat} (h : K.Pairwise (fun x y => x.1 < y.1)) (hk : k ≤ K.length) (h1 : ∀ j, k ≤ j → j < K.length → x.1 < (K.getD j (0, 0)).1) (h2 : 0 < k → (K.getD (k - 1) (0, 0)).1 ≤ x.1) : K.take k ++ x :: K.drop k = insE x K := by
  have e := List.take_append_drop k K
  have a1 : ∀ y ∈ K.take k, y.1 ≤ x.1 := fun y hy => by
    obtain ⟨i, hi, rfl⟩ := List.mem_iff_getElem.1 hy
    rw [List.length_take] at hi
    rw [List.getElem_take]
    have h2 := h2 (by omega)
    rw [List.getD_eq_getElem?_getD, List.getElem?_eq_getElem (by omega), Option.getD_some] at h2
    rcases Nat.lt_or_ge i (k - 1) with g | g
    · have := List.pairwise_iff_getElem.1 h i (k - 1) (by omega) (by omega) g; omega
    · have : i = k - 1 := by omega
      subst this; exact h2
  have a2 : ∀ y ∈ K.drop k, x.1 < y.1 := fun y hy => by
    obtain ⟨i, hi, rfl⟩ := List.mem_iff_getElem.1 hy
    rw [List.length_drop] at hi
    rw [List.getElem_drop]
    have := h1 (k + i) (by omega) (by omega)
    rwa [List.getD_eq_getElem?_getD, List.getElem?_eq_getElem (by omega), Option.getD_some] at this
  unfold insE
  rw [← e, List.filter_append, List.filter_append]
  rw [List.filter_eq_self.2 (fun y hy => decide_eq_true (a1 y hy)), List.filter_eq_nil_iff.2 (fun y hy q => by have := a2 y hy; have := of_decide_eq_true q; omega),
    List.filter_eq_nil_iff.2 (fun y hy q => by have := a1 y hy; have := of_decide_eq_true q; omega), List.filter_eq_self.2 (fun y hy => decide_eq_true (a2 y hy)), e]
  simp
theorem keI_two {mx : Bool} {L : List It} {i j : Nat} (hi : i < L.length) (hj : j < L.length) (h : keI mx L i = true) (g : keI mx L j = true) (hn : i < j) : (L.getD i (0, 0)).1 ≠ (L.getD j (0, 0)).1 := by
  intro e
  rcases Int.lt_or_le (sgE mx (L.getD i (0, 0)).2) (sgE mx (L.getD j (0, 0)).2) with q | q
  · have := (keI_iff.1 h j hj (by omega) ⟨by omega, by omega⟩).1
    rw [this] at q; omega
  · have := (keI_iff.1 g i hi (by omega) ⟨by omega, q⟩).2
    omega
theorem keS_facts {mx : Bool} {L : List It} : ∀ n, n ≤ L.length → (keS mx L n).Pairwise (fun x y => x.1 < y.1) ∧ ∀ x, x ∈ keS mx L n ↔ ∃ i, i < n ∧ keI mx L i = true ∧ L.getD i (0, 0) = x := by
  intro n
  induction n with
  | zero => intro _; exact ⟨List.Pairwise.nil, fun x => ⟨fun h => (by cases h), fun ⟨i, hi, _⟩ => (by omega)⟩⟩
  | succ n ih =>
    intro hn
    obtain ⟨h1, h2⟩ := ih (by omega)
    unfold keS
    by_cases hk : keI mx L n = true
    · rw [if_pos hk]
      refine ⟨insE_asc h1 (fun y hy => ?_), fun x => ?_⟩
      · obtain ⟨i, hi, hki, rfl⟩ := (h2 y).1 hy
        exact keI_two (by omega) (by omega) hki hk hi
      · rw [insE_mem, h2 x]
        constructor
        · rintro (e | ⟨i, hi, a, b⟩)
          · exact ⟨n, by omega, hk, e.symm⟩
          · exact ⟨i, by omega, a, b⟩
        · rintro ⟨i, hi, a, b⟩
          by_cases e : i = n
          · subst e; exact Or.inl b.symm
          · exact Or.inr ⟨i, by omega, a, b⟩
    · rw [if_neg hk]
      refine ⟨h1, fun x => ?_⟩
      rw [h2 x]
      constructor
      · rintro ⟨i, hi, a, b⟩; exact ⟨i, by omega, a, b⟩
      · rintro ⟨i, hi, a, b⟩
        by_cases e : i = n
        · subst e; exact absurd a hk
        · exact ⟨i, by omega, a, b⟩
theorem first_at {x : It} : ∀ {L : List It}, x ∈ L → ∃ i, i < L.length ∧ L.getD i (0, 0) = x ∧ ∀ j, j < i → L.getD j (0, 0) ≠ x := by
  intro L
  induction L with
  | nil => intro h; cases h
  | cons y L ih =>
    intro h
    by_cases e : y = x
    · exact ⟨0, by simp, by subst e; rfl, fun j hj => by omega⟩
    · rcases List.mem_cons.1 h with g | g
      · exact absurd g.symm e
      · obtain ⟨i, a, b, c⟩ := ih g
        refine ⟨i + 1, by simp; omega, by simpa [List.getD] using b, fun j hj => ?_⟩
        cases j with
        | zero => simpa [List.getD] using e
        | succ j => have := c j (by omega); simpa [List.getD] using this
theorem keS_kd (mx : Bool) (L : List It) : KdE mx (keS mx L L.length) L := by
  obtain ⟨h1, h2⟩ := keS_facts (mx := mx) (L := L) L.length (Nat.le_refl _)
  have memD : ∀ i, i < L.length → L.getD i (0, 0) ∈ L := fun i hi => by
    rw [List.getD_eq_getElem?_getD, List.getElem?_eq_getElem hi]; exact List.getElem_mem hi
  refine ⟨h1, fun x => ?_⟩
  rw [h2 x]
  constructor
  · rintro ⟨i, hi, hk, rfl⟩
    refine ⟨memD i hi, fun y hy hr => ?_⟩
    obtain ⟨j, hj, rfl, _⟩ := first_at hy
    by_cases e : i = j
    · subst e; rfl
    · exact (keI_iff.1 hk j hj e hr).1.symm
  · intro hm
    obtain ⟨i, hi, rfl, hf⟩ := first_at hm.1
    refine ⟨i, hi, keI_iff.2 (fun j hj hn hr => ?_), rfl⟩
    have := hm.2 _ (memD j hj) hr
    refine ⟨this.symm, ?_⟩
    rcases Nat.lt_or_ge j i with g | g
    · exact absurd this (hf j g)
    · exact g
end Go.Proofs.Ytfcknhpllhkpeaa

namespace Go.Proofs.Ytfcknhpllhkpeaa
open Go.RowKit

theorem eqItem (a0 a1 b0 b1 : Int) (w : World) : (Op.equalIn 10000 41 (.agg #[.int .i64 a0, .int .i64 a1]) (.agg #[.int .i64 b0, .int .i64 b1])).run Try.prog w =
    .ok (a0 == b0 && a1 == b1) w := by
  have qu := Try.underlying2
  have qa := Try.isAgg2
  have qz := Try.sizeOf2
  rw [show (10000 : Nat) = 9999 + 1 from rfl, Op.equalIn]
  simp only [Sem.run_bind, run_underlying Try.underlying41, Result.andThen_ok]
  go_simp
  by_cases h0 : a0 = b0 <;> by_cases h1 : a1 = b1 <;> simp [h0, h1]

end Go.Proofs.Ytfcknhpllhkpeaa
