/- Texts of these claims, one after the other. -/
import Derived.Test.YtfdjhahnggdklaaZCClock
import Derived.Test.YtfdjhahnggdklaaZGBasem8
import Derived.Test.YtfdjhahnggdklaaZGLawm3
import Derived.Test.YtfdjhahnggdklaaZHOrdm2
import Derived.Test.YtfdjhahnggdklaaZHRowm3
import Derived.Test.YtfdjhahnggdklaaZHSmallm7
import Derived.Test.YtfdjhahnggdklaaZHVal
import Derived.Test.YtfdjhahnggdklaaZWCmpm5
import Derived.Test.YtfdjhahnggdklaaZWMathm9
namespace Go.Proofs.Ytfdjhahnggdklaa
open Go.RowKit

theorem set_del {X : List It} {f : Nat} {p : It} (h : f + 1 < X.length) : (X.set f p).take (f + 1) ++ (X.set f p).drop (f + 2) = X.take f ++ p :: X.drop (f + 2) := by
  apply List.ext_getElem?
  intro j
  simp only [List.getElem?_append, List.getElem?_take, List.getElem?_drop, List.length_take, List.length_set, List.getElem?_set, List.getElem?_cons]
  rw [show min (f + 1) X.length = f + 1 by omega, show min f X.length = f by omega]
  rcases Nat.lt_trichotomy j f with g | g | g
  · rw [if_pos (by omega), if_pos (by omega), if_neg (by omega), if_pos (by omega), if_pos (by omega)]
  · rw [if_pos (by omega), if_pos (by omega), if_pos g.symm, if_pos (by omega), if_neg (by omega), if_pos (by omega)]
  · rw [if_neg (by omega), if_neg (by omega), if_neg (by omega), if_neg (by omega)]
    congr 1 <;> omega
theorem cn_new (j : Int) (L : List It) (t : Int) : cn j (L ++ [(t, 0)]) = cn j L + (if (0 : Int) = j then 1 else 0) := by rw [cn_app, cn_cons, cn_nil, Nat.zero_add]

set_option maxHeartbeats 4000000 in
set_option maxRecDepth 100000 in
theorem grow_up (w0 : World) (A : Option Addr) (n k gc : Nat) (L : List It) (q t T : Int) (w : World) (hu : Up w0 w) (hO : OwB w0 w (.slice A n k) n L) (hT : Ty w gc (fun j => (cn (j : Int) L : Int))) (hg : w0.heap.size ≤ gc)
    (hI : Iv (L ++ [(t, 0)]) q 0 T t) (hT30 : T ≤ 1073741824) (hn : n ≤ 100000) :
    Calls Try.prog 77 #[.slice A n k, .pointer (some ⟨gc, 0, none⟩), .int .i64 q, .int .i64 t] w fun e w' => ∃ A' n' k', e = .returned (.slice A' n' k') ∧ n' ≤ n + 1 ∧ OwB w0 w' (.slice A' n' k') n' (puB q t L) ∧ Ty w' gc (fun j => (cn (j : Int) (puB q t L) : Int)) ∧ Up w0 w' := by
  obtain ⟨A1, k1, w1, hr, h1, h2, h3⟩ := appendB 22 w0 (w.alloc (.cells #[.int .i64 t, .int .i64 0] 95)) _ n L (hO.of_up ((Up.refl _).alloc _ _)) (hu.alloc _ _) (some ⟨w.heap.size, 0, none⟩) 1 1 [(t, 0)] (oneB w t 0) (by omega)
  have hT1 : Ty w1 gc (fun j => (cn (j : Int) L : Int)) := h3 _ _ (hT.up ((Up.refl _).alloc _ _))
  obtain ⟨g, rfl, hg1, hR⟩ := h1.ro (by omega)
  have HR := Lib.hid hr
  have hl : (L ++ [(t, 0)]).length = n + 1 := hR.len
  have hc := cn_le 0 L
  have hne : g ≠ gc := by
    intro e
    subst e
    obtain ⟨cur, hb, _⟩ := hR
    unfold Ty Blk at hT1
    unfold Blk at hb
    rw [hb] at hT1
    injection hT1 with hT1
    injection hT1 with _ hT1
    exact absurd hT1 (by decide)
  have c0 := hT1.at_ (j := 0) (by omega)
  have fz := Blk.frozen hT1 0
  have hz0 : ((cn ((0 : Nat) : Int) L : Nat) : Int) ≤ n := by rw [List.length_append] at hl; simp at hl ⊢; omega
  have hz1 : (0 : Int) ≤ ((cn ((0 : Nat) : Int) L : Nat) : Int) := by omega
  have HT1 := Lib.hid (hT1.set_ 0 ((cn ((0 : Nat) : Int) L : Int) + 1))
  generalize hz : ((cn ((0 : Nat) : Int) L : Nat) : Int) = z at c0 hz0 hz1 HT1
  have HR1 := Lib.hid hR
  have HU1 := Lib.hid h2
  have HI := Lib.hid hI
  clear h1 h2 h3 hr hO hu hT hT1 hR hI
  have HP : Hid (puS q 31 0 (L ++ [(t, 0)]) = puB q t L) := Lib.hid rfl
  generalize puB q t L = Z at *
  go_enter Try.func77, Try.ntmps77
  go_wp2_with (refine wpList_append_run (o := ⟨some 16, _, _, _, _, _⟩) rfl (.tmp 12) (.tmp 15) _ rfl _ _ rfl rfl _ _ HR.out ?_)
  go_cut [] (fun wx => Hid (Ty wx gc (fun j => (cn (j : Int) (L ++ [(t, 0)]) : Int))) ∧ Hid (Ro wx g k1 (n + 1) (L ++ [(t, 0)])) ∧ Hid (Up w0 wx))
  case first =>
    go_region
    all_goals go_wp2_with fail
    all_goals go_meet
    refine ⟨Lib.hid (HT1.out.congr (fun j _ => ?_)), Lib.hid (Ro.far HR1.out hne _), Lib.hid ((HU1.out.setCell hg _).drew)⟩
    rw [cn_new]
    by_cases e : j = 0
    · subst e; rw [if_pos rfl, ← hz]; simp
    · rw [if_neg e, if_neg (by omega)]; rfl
  case rest =>
    obtain ⟨HT2, HR2, HU2⟩ := hcut
    rename_i wx
    have HD : Hid ((n : Int) + 1 = (gt (0 - 1) (L ++ [(t, 0)]) : Int)) := Lib.hid (by
      rw [gt_all (fun x hx => by have := (HI.out.rg x hx).2.1; omega), hl]; rfl)
    clear c0 fz hz0 hz1 HT1 HR1 HU1 hz hc hl HR
    generalize L ++ [(t, 0)] = X0 at *
    go_wp2_with fail
    go_loopw [0, 9, 10, 11] (fun s0 s9 s10 _ wr => ∃ (l m : Nat) (X : List It) (E : Int), s0 = .slice (some ⟨g, 0, none⟩) m k1 ∧ s9 = .int .i64 E ∧ s10 = .int .i64 l ∧ l ≤ 30 ∧ m ≤ n + 1 ∧ Hid (E = (gt ((l : Int) - 1) X : Int)) ∧ Hid (Ty wr gc (fun j => (cn (j : Int) X : Int))) ∧ Hid (Ro wr g k1 m X) ∧ Hid (Up w0 wr) ∧ Hid (Iv X q l T t) ∧ Hid (puS q (31 - l) l X = Z)) (fun _ _ s10 _ _ => 31 - (intOf s10).toNat)
    case atStart => exact ⟨0, n + 1, X0, _, rfl, rfl, rfl, by omega, Nat.le_refl _, HD, HT2, HR2, HU2, HI, HP⟩
    case round =>
      obtain ⟨l, m, X, E, rfl, rfl, rfl, hl, hm, HE, HT, HR, HU, HI, HP⟩ := hrel
      have c0 := HT.out.at_ (j := l) (by omega)
      have hd := HI.out.ds
      have hk := HI.out.k2
      have hk1 := HI.out.k1
      have hlen := HR.out.len
      have hcl := cn_le (l : Int) X
      obtain ⟨c, hc⟩ : ∃ c, cn (l : Int) X = c := ⟨_, rfl⟩
      by_cases hz : (cn (l : Int) X : Int) ≤ q + 1
      · obtain rfl : Z = X := by rw [← HP.out, puS_at hz]
        have e1 : Z.length = m := hlen
        rw [hc] at c0 hz
        clear HI HP HE hd
        have f3 : (0 : Int) ≤ l := by omega
        have f5 : ((c : Int) == q + 2) = false := by simp; omega
        by_cases h30 : l < 30
        · have f2 : (l : Int) < 30 := by omega
          have f4 : (l : Int) < 31 := by omega
          have f6 : l < 30 := h30
          go_wp2_with fail
          go_ret
          exact ⟨_, _, _, rfl, hm, HR.out.own hg1, HT.out, HU.out⟩
        · have f2 : ¬ (l : Int) < 30 := by omega
          go_wp2_with fail
          go_ret
          exact ⟨_, _, _, rfl, hm, HR.out.own hg1, HT.out, HU.out⟩
      · obtain ⟨h30, hq2, hc2, HI2⟩ := HI.out.next hT30 (by omega) hz
        have hcn := mg_cn hd hc2
        have hml := mg_len hd hc2
        have hmg := mg_gt hd hc2
        have hst := gt_step ((l : Int) - 1) X
        rw [show (l : Int) - 1 + 1 = l by omega, hc] at hst
        have hgl := gt_le ((l : Int) - 1) X
        rw [hlen, hst] at hgl
        rw [hc] at hq2
        have hP2 : puS q (31 - (l + 1)) ((l : Int) + 1) (mgB X l) = Z := by
          rw [← HP.out, show 31 - l = (31 - (l + 1)) + 1 by omega, puS_step hz]
        obtain ⟨f, hf⟩ : ∃ f, gt (l : Int) X = f := ⟨_, rfl⟩
        rw [hf] at hgl hst hmg
        have hml3 : f + 2 < m := by omega
        have hml2 : f + 1 < m := by omega
        have hEc : E - (c : Int) = f := by rw [HE.out, hst]; omega
        have hEw : IntKind.i64.wrap (f : Int) = f := by rw [IntKind.wrap_i64]; omega
        obtain ⟨bb, oo, hbo, e0, _⟩ := HR.out.sl.at_ hml2
        cases hbo
        rw [Nat.zero_add] at e0
        have hmx : mgB X l = X.take f ++ ((X.getD (f + 1) (0, 0)).1, (l : Int) + 1) :: X.drop (f + 2) := by unfold mgB; rw [hf]
        have HY := Lib.hid (HR.out.put f (X.getD (f + 1) (0, 0)).1 ((l : Int) + 1))
        obtain ⟨v0, e1⟩ := HR.out.cell (o := f * 2) (by have := HR.out.le; omega)
        obtain ⟨v1, e2⟩ := HR.out.cell (o := f * 2 + 1) (by have := HR.out.le; omega)
        have z0 := HR.out.frozen (f * 2)
        have z1 := HR.out.frozen (f * 2 + 1)
        have HZ : Hid ((X.set f ((X.getD (f + 1) (0, 0)).1, (l : Int) + 1)).take (f + 1) ++ (X.set f ((X.getD (f + 1) (0, 0)).1, (l : Int) + 1)).drop (f + 1 + 1) = mgB X l) := Lib.hid (by rw [hmx]; exact set_del (by rw [hlen]; exact hml2))
        generalize (X.getD (f + 1) (0, 0)).1 = p at *
        have KD : Hid (∀ W, Ro W g k1 m (X.set f (p, (l : Int) + 1)) → Calls Try.prog 101 #[.slice (some ⟨g, 0, none⟩) m k1, .int .i64 ((f : Int) + 1), .int .i64 ((f : Int) + 2)] W fun e w' => e = .returned (.slice (some ⟨g, 0, none⟩) (m - 1) k1) ∧ Ro w' g k1 (m - 1) (mgB X l) ∧ Cp W w' g) := Lib.hid (fun W hW => by
          have := delete_ro g k1 m (f + 1) _ W hW (by omega) (by omega)
          rw [HZ.out] at this
          exact this)
        rw [hc] at c0
        have hq2' : (c : Int) = q + 2 := hq2
        have f5 : ((c : Int) == q + 2) = true := by simp [hq2']
        have f2 : (l : Int) < 30 := by omega
        have f3 : (0 : Int) ≤ l := by omega
        have f4 : (l : Int) < 31 := by omega
        have f6 : (f : Int) < m := by omega
        have f7 : (f : Int) + 1 < m := by omega
        have f8 : (0 : Int) ≤ f := by omega
        have f9 : (0 : Int) ≤ (f : Int) + 1 := by omega
        have HI3 := Lib.hid HI2
        have HQ2 := Lib.hid hq2'
        have HCN := Lib.hid hcn
        have HP3 := Lib.hid hP2
        have HMG := Lib.hid hmg
        have hnp : g ≠ gc := hne
        clear HI HP HE hd hz HI2 hcn hP2 hmg hml hst hgl hq2 hq2' hmx HZ hc2 hcl
        go_wp2_with (go_at_call 101; (with_reducible refine (KD.out _ HY.out).mono ?_); rintro e w3 ⟨rfl, hR3, hC3⟩)
        have hT3 : Ty w3 gc (fun j => (cn (j : Int) X : Int)) := (hC3.far gc (Ne.symm hnp)).trans (Blk.far (Blk.far HT.out (by exact Ne.symm hnp) _) (by exact Ne.symm hnp) _)
        have HU3 := Lib.hid (hC3.up w0 ((HU.out.setCell hg1 _).setCell hg1 _) hg1)
        have c3 := hT3.at_ (j := l) (by omega)
        have z3 := Blk.frozen hT3 l
        rw [hc] at c3
        have HT3 := Lib.hid (hT3.set_ l ((c : Int) - 2))
        have HR3 := Lib.hid hR3
        have g1 : (0 : Int) ≤ c := by omega
        have g2 : (c : Int) ≤ 200 := by have := HQ2.out; omega
        clear hT3 hR3 hC3 HY KD HT HU HR c0 e0 e1 e2 z0 z1
        go_cut [] (fun wx => Hid (Ty wx gc (fun j => if j = l then (c : Int) - 2 else (cn (j : Int) X : Int))) ∧ Hid (Ro wx g k1 (m - 1) (mgB X l)) ∧ Hid (Up w0 wx))
        case first =>
          go_region
          all_goals go_wp2_with fail
          all_goals go_meet
          all_goals exact ⟨HT3, Lib.hid (Ro.far HR3.out hnp _), Lib.hid ((HU3.out.setCell hg _).drew)⟩
        case rest =>
          obtain ⟨HT4, HR4, HU4⟩ := hcut
          clear HT3 HR3 HU3 c3 z3
          rename_i w4
          have c4 := HT4.out.at_ (j := l + 1) (by omega)
          rw [if_neg (by omega)] at c4
          have z4 := Blk.frozen HT4.out (l + 1)
          have HT5 := Lib.hid (HT4.out.set_ (l + 1) ((cn ((l + 1 : Nat) : Int) X : Int) + 1))
          have g3 : ((cn ((l + 1 : Nat) : Int) X : Nat) : Int) ≤ 100001 := by have := cn_le ((l + 1 : Nat) : Int) X; omega
          have g4 : (0 : Int) ≤ ((cn ((l + 1 : Nat) : Int) X : Nat) : Int) := by omega
          obtain ⟨z, hz⟩ : ∃ z : Int, ((cn ((l + 1 : Nat) : Int) X : Nat) : Int) = z := ⟨_, rfl⟩
          rw [hz] at c4 HT5 g3 g4
          have g5 : (l : Int) + 1 < 31 := by omega
          have g6 : (0 : Int) ≤ (l : Int) + 1 := by omega
          have HZ := Lib.hid hz
          clear hz
          go_wp2_with fail
          go_cut [] (fun wx => Hid (Ty wx gc (fun j => (cn (j : Int) (mgB X l) : Int))) ∧ Hid (Ro wx g k1 (m - 1) (mgB X l)) ∧ Hid (Up w0 wx))
          case first =>
            go_region
            all_goals go_wp2_with fail
            all_goals go_meet
            all_goals refine ⟨Lib.hid (HT5.out.congr (fun j _ => ?_)), Lib.hid (Ro.far HR4.out hnp _), Lib.hid ((HU4.out.setCell hg _).drew)⟩
            rw [HCN.out]
            by_cases e1 : j = l + 1
            · rw [if_pos e1, if_neg (by omega), if_pos (by omega), e1, HZ.out]
            · rw [if_neg e1]
              by_cases e2 : j = l
              · rw [if_pos e2, if_pos (by omega), e2, hc]; rfl
              · rw [if_neg e2, if_neg (by omega), if_neg (by omega)]; exact (Int.add_zero _).symm
          case rest =>
            obtain ⟨HT6, HR6, HU6⟩ := hcut
            clear HT5 HT4 HR4 HU4 c4 z4
            go_wp2_with fail
            go_roundw
            case rel => exact ⟨l + 1, m - 1, mgB X l, _, rfl, rfl, by go_num, by omega, by omega, Lib.hid (by rw [show ((l + 1 : Nat) : Int) - 1 = (l : Int) by omega, HMG.out]; rfl), HT6, HR6, HU6, by exact HI3, by exact HP3⟩
            case measure => simp [intOf]; omega
end Go.Proofs.Ytfdjhahnggdklaa

namespace Go.Proofs.Ytfdjhahnggdklaa
open Go.RowKit

/-- So many insertions. -/
def itB (q t : Int) : Nat → List It → List It
  | 0, L => L
  | n + 1, L => puB q t (itB q t n L)
def inB (L : List It) (q t m : Int) : Bool := vaB L q && (folB L t && rooB L m)
def imL (L : List It) (q t m : Int) : List It := if inB L q t m = true then itB q t m.toNat L else []
theorem imL_no {L : List It} {q t m : Int} (h : inB L q t m = false) : imL L q t m = [] := by unfold imL; rw [h]; rfl
theorem imL_yes {L : List It} {q t m : Int} (h : inB L q t m = true) : imL L q t m = itB q t m.toNat L := by unfold imL; rw [if_pos h]
theorem As.lst {L : List It} (h : As L) : ∀ x ∈ L, x.1 ≤ lstZ L := by
  intro x hx
  obtain ⟨j, hj, rfl⟩ := List.mem_iff_getElem.1 hx
  unfold lstZ
  rw [gD_at (show L.length - 1 < L.length by omega)]
  rcases Nat.lt_or_ge j (L.length - 1) with g | g
  · exact List.pairwise_iff_getElem.1 h j (L.length - 1) hj (by omega) g
  · have e : j = L.length - 1 := by omega
    subst e
    exact Int.le_refl _
theorem fol_all {L : List It} {t : Int} (h : As L) (hf : folB L t = true) : (0 ≤ t ∧ t ≤ 16777216) ∧ ∀ x ∈ L, x.1 ≤ t := by
  unfold folB at hf
  rw [Bool.and_eq_true, Bool.or_eq_true, decide_eq_true_eq, decide_eq_true_eq] at hf
  refine ⟨tickB_true hf.1, fun x hx => ?_⟩
  rcases hf.2 with g | g
  · rw [List.length_eq_zero_iff.1 g] at hx; cases hx
  · exact Int.le_trans (h.lst x hx) g
theorem fol_of {L : List It} {t : Int} (h0 : 0 ≤ t) (h1 : t ≤ 16777216) (hl : ∀ x ∈ L, x.1 ≤ t) : folB L t = true := by
  unfold folB
  rw [tickB_yes h0 h1]
  by_cases h : L = []
  · subst h; rfl
  · have : L.length ≠ 0 := fun e => h (List.length_eq_zero_iff.1 e)
    rw [decide_eq_true (p := lstZ L ≤ t) (hl _ (gD_mem (by omega)))]; simp
theorem roo_true {L : List It} {m : Int} (h : rooB L m = true) : (0 ≤ m ∧ m ≤ 1024) ∧ (0 < m → totB L + m ≤ 1073741824) := by
  unfold rooB at h
  rw [Bool.and_eq_true, Bool.or_eq_true, decide_eq_true_eq, decide_eq_true_eq, decide_eq_true_eq] at h
  refine ⟨h.1, fun h0 => ?_⟩
  rcases h.2 with g | g
  · omega
  · exact g
theorem itB_va {L : List It} {q t : Int} (h : Va L q) (h0 : 0 ≤ t) (h1 : t ≤ 16777216) (hl : ∀ x ∈ L, x.1 ≤ t) : ∀ n : Nat, (0 < n → totB L + n ≤ 1073741824) → Va (itB q t n L) q ∧ totB (itB q t n L) = totB L + n ∧ ∀ x ∈ itB q t n L, x.1 ≤ t := by
  intro n
  induction n with
  | zero => intro _; exact ⟨h, by simp [itB], hl⟩
  | succ n ih =>
    intro hT
    have hT := hT (by omega)
    obtain ⟨a, b, c⟩ := ih (fun _ => by omega)
    obtain ⟨d, e, f⟩ := puB_va a h0 h1 c (by omega)
    exact ⟨d, by unfold itB; rw [e, b]; omega, f⟩

set_option maxHeartbeats 4000000 in
set_option maxRecDepth 100000 in
theorem insertMany_up (n k : Nat) (A : Option Addr) (L : List It) (q t m : Int) (hn : n ≤ 50000) (w : World) (hS : Sl w A n L) :
    Calls Try.prog 46 #[.slice A n k, .int .i64 q, .int .i64 t, .int .i64 m] w fun e w' => ∃ A' n' k', e = .returned (.slice A' n' k') ∧ n' ≤ n + 1024 ∧ OwB w w' (.slice A' n' k') n' (imL L q t m) ∧ Up w w' := by
  have KV := Lib.hid (valid10_up n k A L q (by omega) w hS)
  have HS := Lib.hid hS
  have KF := Lib.hid (fun W (h : Sl W A n L) => follows_any n k A L t (by omega) W h)
  have KR := Lib.hid (fun W (h : Sl W A n L) => hasRoom_up n k A L m (by omega) W h)
  have KC := Lib.hid (fun W (h : Sl W A n L) => clone_up n k A L (by omega) W h)
  have KT := Lib.hid (fun W (h : Sl W A n L) => tallyOf_up n k A L (by omega) W h)
  cases hv : vaB L q with
  | false =>
    rw [imL_no (by unfold inB; rw [hv]; rfl)]
    rw [hv] at KV
    clear hv hS
    go_enter Try.func46, Try.ntmps46
    go_wp2_with (go_at_call 51; (with_reducible refine KV.out.mono ?_); rintro e w1 ⟨rfl, hu1⟩)
    go_ret
    exact ⟨_, _, _, rfl, by omega, OwB.nil _ _, hu1⟩
  | true =>
  rw [hv] at KV
  cases hf : folB L t with
  | false =>
    rw [imL_no (by unfold inB; rw [hf]; simp)]
    rw [hf] at KF
    clear hv hf hS
    go_enter Try.func46, Try.ntmps46
    go_wp2_with (first | (go_at_call 51; (with_reducible refine KV.out.mono ?_); rintro e w1 ⟨rfl, hu1⟩; have HU1 := Lib.hid hu1; clear hu1) | (go_at_call 74; (with_reducible refine (KF.out _ (HS.out.up HU1.out)).mono ?_); rintro e w' ⟨rfl, rfl⟩))
    go_ret
    exact ⟨_, _, _, rfl, by omega, OwB.nil _ _, HU1.out⟩
  | true =>
  rw [hf] at KF
  cases hr : rooB L m with
  | false =>
    rw [imL_no (by unfold inB; rw [hr]; simp)]
    rw [hr] at KR
    clear hv hf hr hS
    go_enter Try.func46, Try.ntmps46
    go_wp2_with (first | (go_at_call 51; (with_reducible refine KV.out.mono ?_); rintro e w1 ⟨rfl, hu1⟩; have HU1 := Lib.hid hu1; clear hu1) | (go_at_call 74; (with_reducible refine (KF.out _ (HS.out.up HU1.out)).mono ?_); rintro e w' ⟨rfl, rfl⟩) | (go_at_call 75; (with_reducible refine (KR.out _ (HS.out.up HU1.out)).mono ?_); rintro e w2 ⟨rfl, hu2⟩; have HU2 := Lib.hid (HU1.out.trans hu2); clear hu2))
    go_ret
    exact ⟨_, _, _, rfl, by omega, OwB.nil _ _, HU2.out⟩
  | true =>
  rw [hr] at KR
  have ei : imL L q t m = itB q t m.toNat L := imL_yes (by unfold inB; rw [hv, hf, hr]; rfl)
  rw [ei]
  have hva := vaB_iff.1 hv
  obtain ⟨ht, hla⟩ := fol_all hva.as_ hf
  obtain ⟨hm, hro⟩ := roo_true hr
  have HV := Lib.hid (fun i hi => itB_va hva ht.1 ht.2 hla i hi)
  have et : taV L = .tuple #[.agg (tyL (fun j => (cn (j : Int) L : Int))).toArray, .bool true] := by
    unfold taV tyF; rw [lvB_of (orB_iff.2 ⟨hva.rg, hva.ds, hva.as_⟩)]; rfl
  rw [et] at KT
  have HRO := Lib.hid hro
  obtain ⟨m, rfl⟩ : ∃ x : Nat, m = x := ⟨m.toNat, by omega⟩
  rw [Int.toNat_natCast]
  generalize hF : (fun j : Nat => (cn (j : Int) L : Int)) = F at KT
  have HF := Lib.hid hF
  clear hv hf hr hS ei hva hla hro et hF
  go_enter Try.func46, Try.ntmps46
  go_wp2_with (first | (go_at_call 51; (with_reducible refine KV.out.mono ?_); rintro e w1 ⟨rfl, hu1⟩; have HU1 := Lib.hid hu1; clear hu1) | (go_at_call 74; (with_reducible refine (KF.out _ (HS.out.up HU1.out)).mono ?_); rintro e w' ⟨rfl, rfl⟩) | (go_at_call 75; (with_reducible refine (KR.out _ (HS.out.up HU1.out)).mono ?_); rintro e w2 ⟨rfl, hu2⟩; have HU2 := Lib.hid (HU1.out.trans hu2); clear hu2) | (go_at_call 72; (with_reducible refine (KC.out _ (HS.out.up HU2.out)).mono ?_); rintro e w3 ⟨A3, k3, rfl, ho3, hu3⟩; have HO3 := Lib.hid (ho3.weak HU2.out.size); have HU3 := Lib.hid (HU2.out.trans hu3); clear hu3 ho3) | (go_at_call 76; (with_reducible refine (KT.out _ (HS.out.up HU3.out)).mono ?_); rintro e w4 ⟨rfl, hu4⟩; have HU4 := Lib.hid (HU3.out.trans hu4); have HO4 := Lib.hid (HO3.out.of_up hu4); clear hu4) | (refine wpList_store_ty rfl (.tmp 10) (.tmp 33) rfl w4.heap.size (fun _ => 0) F rfl rfl (Ty.zero w4) ?_; intro w5 hc5 ht5; have HU5 := Lib.hid (hc5.up _ (HU4.out.alloc _ _) HU4.out.size); have HO5 := Lib.hid (HO4.out.of_up (hc5.up _ ((Up.refl w4).alloc _ _) (Nat.le_refl _))); have HT5 := Lib.hid ht5; clear hc5 ht5))
  rw [← HF.out] at HT5
  have hb := HU4.out.size
  go_loopw [9, 36] (fun s9 s36 wr => ∃ (i n' k' : Nat) (A' : Option Addr), s9 = .slice A' n' k' ∧ s36 = .int .i64 i ∧ i ≤ m ∧ n' ≤ n + i ∧ Hid (OwB w wr (.slice A' n' k') n' (itB q t i L)) ∧ Hid (Ty wr w4.heap.size (fun j => (cn (j : Int) (itB q t i L) : Int))) ∧ Hid (Up w wr)) (fun _ t _ => m - (intOf t).toNat)
  case atStart => exact ⟨0, n, _, _, rfl, rfl, by omega, by omega, HO5, HT5, HU5⟩
  case round =>
    obtain ⟨i, n', k', A', rfl, rfl, hi, hn', HO, HT, HU⟩ := hrel
    by_cases h : i < m
    · have f2 : (i : Int) < m := by omega
      have f3 : (0 : Int) ≤ i := by omega
      have HG := Lib.hid (by
        have hT := HRO.out (by omega)
        obtain ⟨a, b, c⟩ := HV.out i (fun _ => by omega)
        exact grow_up w A' n' k' w4.heap.size (itB q t i L) q t (totB (itB q t i L) + 1) wr HU.out HO.out HT.out hb (a.start ht.1 ht.2 c) (by rw [b]; omega) (by omega))
      go_wp2_with (go_at_call 77; (with_reducible refine HG.out.mono ?_); rintro e w6 ⟨A6, n6, k6, rfl, hn6, ho6, ht6, hu6⟩)
      go_roundw
      case rel => exact ⟨i + 1, n6, k6, A6, rfl, by go_num, by omega, by omega, Lib.hid ho6, Lib.hid ht6, Lib.hid hu6⟩
      case measure => simp [intOf]; omega
    · obtain rfl : i = m := by omega
      go_wp2_with fail
      go_ret
      exact ⟨_, _, _, rfl, by omega, HO.out, HU.out⟩
theorem insert_up (n k : Nat) (A : Option Addr) (L : List It) (q t : Int) (hn : n ≤ 50000) (w : World) (hS : Sl w A n L) :
    Calls Try.prog 68 #[.slice A n k, .int .i64 q, .int .i64 t] w fun e w' => ∃ A' n' k', e = .returned (.slice A' n' k') ∧ n' ≤ n + 1024 ∧ OwB w w' (.slice A' n' k') n' (imL L q t 1) ∧ Up w w' := by
  have KM := Lib.hid (insertMany_up n k A L q t 1 hn w hS)
  go_enter Try.func68, Try.ntmps68
  go_wp2_with (go_at_call 46; (with_reducible refine KM.out.mono ?_); rintro e w1 ⟨A', n', k', rfl, h1, h2, h3⟩)
  go_ret
  exact ⟨_, _, _, rfl, h1, h2, h3⟩
end Go.Proofs.Ytfdjhahnggdklaa
