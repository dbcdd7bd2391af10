/- grow of package buckets: one insertion, in the memory of the list. -/
import Derived.Test.YtnhekeohbnmodaaHDel
import Derived.Deep.DeepCutAuto
namespace Go.Proofs.Ytnhekeohbnmodaa
open Go.RowKit

theorem set_del {X : List It} {f : Nat} {p : It} (h : f + 1 < X.length) : (X.set f p).take (f + 1) ++ (X.set f p).drop (f + 2) = X.take f ++ p :: X.drop (f + 2) := by
  apply List.ext_getElem?
  intro j
  simp only [List.getElem?_append, List.getElem?_take, List.getElem?_drop, List.length_take, List.length_set, List.getElem?_set, List.getElem?_cons]
  rw [show min (f + 1) X.length = f + 1 by omega, show min f X.length = f by omega]
  rcases Nat.lt_trichotomy j f with g | g | g
  · rw [if_pos (by omega), if_pos (by omega), if_neg (by omega), if_pos (by omega), if_pos (by omega)]
  · rw [if_pos (by omega), if_pos (by omega), if_pos g.symm, if_pos (by omega), if_neg (by omega), if_pos (by omega)]
  · rw [if_neg (by omega), if_neg (by omega), if_neg (by omega), if_neg (by omega)]
    congr 1 <;> omega
theorem cn_new (j : Int) (L : List It) (t : Int) : cn j (L ++ [(t, 0)]) = cn j L + (if (0 : Int) = j then 1 else 0) := by rw [cn_app, cn_cons, cn_nil, Nat.zero_add]

set_option maxHeartbeats 4000000 in
set_option maxRecDepth 100000 in
theorem grow_up (w0 : World) (A : Option Addr) (n k gc : Nat) (L : List It) (q t T : Int) (w : World) (hu : Up w0 w) (hO : OwB w0 w (.slice A n k) n L) (hT : Ty w gc (fun j => (cn (j : Int) L : Int))) (hg : w0.heap.size ≤ gc)
    (hI : Iv (L ++ [(t, 0)]) q 0 T t) (hT30 : T ≤ 1073741824) (hn : n ≤ 100000) :
    Calls Try.prog 49 #[.slice A n k, .pointer (some ⟨gc, 0, none⟩), .int .i64 q, .int .i64 t] w fun e w' => ∃ A' n' k', e = .returned (.slice A' n' k') ∧ n' ≤ n + 1 ∧ OwB w0 w' (.slice A' n' k') n' (puB q t L) ∧ Ty w' gc (fun j => (cn (j : Int) (puB q t L) : Int)) ∧ Up w0 w' := by
  obtain ⟨A1, k1, w1, hr, h1, h2, h3⟩ := appendB 22 w0 (w.alloc (.cells #[.int .i64 t, .int .i64 0] 39)) _ n L (hO.of_up ((Up.refl _).alloc _ _)) (hu.alloc _ _) (some ⟨w.heap.size, 0, none⟩) 1 1 [(t, 0)] (oneB w t 0) (by omega)
  have hT1 : Ty w1 gc (fun j => (cn (j : Int) L : Int)) := h3 _ _ (hT.up ((Up.refl _).alloc _ _))
  obtain ⟨g, rfl, hg1, hR⟩ := h1.ro (by omega)
  have HR := Lib.hid hr
  have hl : (L ++ [(t, 0)]).length = n + 1 := hR.len
  have hc := cn_le 0 L
  have hne : g ≠ gc := by
    intro e
    subst e
    obtain ⟨cur, hb, _⟩ := hR
    unfold Ty Blk at hT1
    unfold Blk at hb
    rw [hb] at hT1
    injection hT1 with hT1
    injection hT1 with _ hT1
    exact absurd hT1 (by decide)
  have c0 := hT1.at_ (j := 0) (by omega)
  have fz := Blk.frozen hT1 0
  have hz0 : ((cn ((0 : Nat) : Int) L : Nat) : Int) ≤ n := by rw [List.length_append] at hl; simp at hl ⊢; omega
  have hz1 : (0 : Int) ≤ ((cn ((0 : Nat) : Int) L : Nat) : Int) := by omega
  have HT1 := Lib.hid (hT1.set_ 0 ((cn ((0 : Nat) : Int) L : Int) + 1))
  generalize hz : ((cn ((0 : Nat) : Int) L : Nat) : Int) = z at c0 hz0 hz1 HT1
  have HR1 := Lib.hid hR
  have HU1 := Lib.hid h2
  have HI := Lib.hid hI
  clear h1 h2 h3 hr hO hu hT hT1 hR hI
  have HP : Hid (puS q 31 0 (L ++ [(t, 0)]) = puB q t L) := Lib.hid rfl
  generalize puB q t L = Z at *
  go_enter Try.func49, Try.ntmps49
  go_wp2_with (refine wpList_append_run (o := ⟨some 16, _, _, _, _, _⟩) rfl (.tmp 12) (.tmp 15) _ rfl _ _ rfl rfl _ _ HR.out ?_)
  go_cut [] (fun wx => Hid (Ty wx gc (fun j => (cn (j : Int) (L ++ [(t, 0)]) : Int))) ∧ Hid (Ro wx g k1 (n + 1) (L ++ [(t, 0)])) ∧ Hid (Up w0 wx))
  case first =>
    go_region
    all_goals go_wp2_with fail
    all_goals go_meet
    refine ⟨Lib.hid (HT1.out.congr (fun j _ => ?_)), Lib.hid (Ro.far HR1.out hne _), Lib.hid ((HU1.out.setCell hg _).drew)⟩
    rw [cn_new]
    by_cases e : j = 0
    · subst e; rw [if_pos rfl, ← hz]; simp
    · rw [if_neg e, if_neg (by omega)]; rfl
  case rest =>
    obtain ⟨HT2, HR2, HU2⟩ := hcut
    rename_i wx
    have HD : Hid ((n : Int) + 1 = (gt (0 - 1) (L ++ [(t, 0)]) : Int)) := Lib.hid (by
      rw [gt_all (fun x hx => by have := (HI.out.rg x hx).2.1; omega), hl]; rfl)
    clear c0 fz hz0 hz1 HT1 HR1 HU1 hz hc hl HR
    generalize L ++ [(t, 0)] = X0 at *
    go_wp2_with fail
    go_loopw [0, 9, 10, 11] (fun s0 s9 s10 _ wr => ∃ (l m : Nat) (X : List It) (E : Int), s0 = .slice (some ⟨g, 0, none⟩) m k1 ∧ s9 = .int .i64 E ∧ s10 = .int .i64 l ∧ l ≤ 30 ∧ m ≤ n + 1 ∧ Hid (E = (gt ((l : Int) - 1) X : Int)) ∧ Hid (Ty wr gc (fun j => (cn (j : Int) X : Int))) ∧ Hid (Ro wr g k1 m X) ∧ Hid (Up w0 wr) ∧ Hid (Iv X q l T t) ∧ Hid (puS q (31 - l) l X = Z)) (fun _ _ s10 _ _ => 31 - (intOf s10).toNat)
    case atStart => exact ⟨0, n + 1, X0, _, rfl, rfl, rfl, by omega, Nat.le_refl _, HD, HT2, HR2, HU2, HI, HP⟩
    case round =>
      obtain ⟨l, m, X, E, rfl, rfl, rfl, hl, hm, HE, HT, HR, HU, HI, HP⟩ := hrel
      have c0 := HT.out.at_ (j := l) (by omega)
      have hd := HI.out.ds
      have hk := HI.out.k2
      have hk1 := HI.out.k1
      have hlen := HR.out.len
      have hcl := cn_le (l : Int) X
      obtain ⟨c, hc⟩ : ∃ c, cn (l : Int) X = c := ⟨_, rfl⟩
      by_cases hz : (cn (l : Int) X : Int) ≤ q + 1
      · obtain rfl : Z = X := by rw [← HP.out, puS_at hz]
        have e1 : Z.length = m := hlen
        rw [hc] at c0 hz
        clear HI HP HE hd
        have f3 : (0 : Int) ≤ l := by omega
        have f5 : ((c : Int) == q + 2) = false := by simp; omega
        by_cases h30 : l < 30
        · have f2 : (l : Int) < 30 := by omega
          have f4 : (l : Int) < 31 := by omega
          have f6 : l < 30 := h30
          go_wp2_with fail
          go_ret
          exact ⟨_, _, _, rfl, hm, HR.out.own hg1, HT.out, HU.out⟩
        · have f2 : ¬ (l : Int) < 30 := by omega
          go_wp2_with fail
          go_ret
          exact ⟨_, _, _, rfl, hm, HR.out.own hg1, HT.out, HU.out⟩
      · obtain ⟨h30, hq2, hc2, HI2⟩ := HI.out.next hT30 (by omega) hz
        have hcn := mg_cn hd hc2
        have hml := mg_len hd hc2
        have hmg := mg_gt hd hc2
        have hst := gt_step ((l : Int) - 1) X
        rw [show (l : Int) - 1 + 1 = l by omega, hc] at hst
        have hgl := gt_le ((l : Int) - 1) X
        rw [hlen, hst] at hgl
        rw [hc] at hq2
        have hP2 : puS q (31 - (l + 1)) ((l : Int) + 1) (mgB X l) = Z := by
          rw [← HP.out, show 31 - l = (31 - (l + 1)) + 1 by omega, puS_step hz]
        obtain ⟨f, hf⟩ : ∃ f, gt (l : Int) X = f := ⟨_, rfl⟩
        rw [hf] at hgl hst hmg
        have hml3 : f + 2 < m := by omega
        have hml2 : f + 1 < m := by omega
        have hEc : E - (c : Int) = f := by rw [HE.out, hst]; omega
        have hEw : IntKind.i64.wrap (f : Int) = f := by rw [IntKind.wrap_i64]; omega
        obtain ⟨bb, oo, hbo, e0, _⟩ := HR.out.sl.at_ hml2
        cases hbo
        rw [Nat.zero_add] at e0
        have hmx : mgB X l = X.take f ++ ((X.getD (f + 1) (0, 0)).1, (l : Int) + 1) :: X.drop (f + 2) := by unfold mgB; rw [hf]
        have HY := Lib.hid (HR.out.put f (X.getD (f + 1) (0, 0)).1 ((l : Int) + 1))
        obtain ⟨v0, e1⟩ := HR.out.cell (o := f * 2) (by have := HR.out.le; omega)
        obtain ⟨v1, e2⟩ := HR.out.cell (o := f * 2 + 1) (by have := HR.out.le; omega)
        have z0 := HR.out.frozen (f * 2)
        have z1 := HR.out.frozen (f * 2 + 1)
        have HZ : Hid ((X.set f ((X.getD (f + 1) (0, 0)).1, (l : Int) + 1)).take (f + 1) ++ (X.set f ((X.getD (f + 1) (0, 0)).1, (l : Int) + 1)).drop (f + 1 + 1) = mgB X l) := Lib.hid (by rw [hmx]; exact set_del (by rw [hlen]; exact hml2))
        generalize (X.getD (f + 1) (0, 0)).1 = p at *
        have KD : Hid (∀ W, Ro W g k1 m (X.set f (p, (l : Int) + 1)) → Calls Try.prog 66 #[.slice (some ⟨g, 0, none⟩) m k1, .int .i64 ((f : Int) + 1), .int .i64 ((f : Int) + 2)] W fun e w' => e = .returned (.slice (some ⟨g, 0, none⟩) (m - 1) k1) ∧ Ro w' g k1 (m - 1) (mgB X l) ∧ Cp W w' g) := Lib.hid (fun W hW => by
          have := delete_ro g k1 m (f + 1) _ W hW (by omega) (by omega)
          rw [HZ.out] at this
          exact this)
        rw [hc] at c0
        have hq2' : (c : Int) = q + 2 := hq2
        have f5 : ((c : Int) == q + 2) = true := by simp [hq2']
        have f2 : (l : Int) < 30 := by omega
        have f3 : (0 : Int) ≤ l := by omega
        have f4 : (l : Int) < 31 := by omega
        have f6 : (f : Int) < m := by omega
        have f7 : (f : Int) + 1 < m := by omega
        have f8 : (0 : Int) ≤ f := by omega
        have f9 : (0 : Int) ≤ (f : Int) + 1 := by omega
        have HI3 := Lib.hid HI2
        have HQ2 := Lib.hid hq2'
        have HCN := Lib.hid hcn
        have HP3 := Lib.hid hP2
        have HMG := Lib.hid hmg
        have hnp : g ≠ gc := hne
        clear HI HP HE hd hz HI2 hcn hP2 hmg hml hst hgl hq2 hq2' hmx HZ hc2 hcl
        go_wp2_with (go_at_call 66; (with_reducible refine (KD.out _ HY.out).mono ?_); rintro e w3 ⟨rfl, hR3, hC3⟩)
        have hT3 : Ty w3 gc (fun j => (cn (j : Int) X : Int)) := (hC3.far gc (Ne.symm hnp)).trans (Blk.far (Blk.far HT.out (by exact Ne.symm hnp) _) (by exact Ne.symm hnp) _)
        have HU3 := Lib.hid (hC3.up w0 ((HU.out.setCell hg1 _).setCell hg1 _) hg1)
        have c3 := hT3.at_ (j := l) (by omega)
        have z3 := Blk.frozen hT3 l
        rw [hc] at c3
        have HT3 := Lib.hid (hT3.set_ l ((c : Int) - 2))
        have HR3 := Lib.hid hR3
        have g1 : (0 : Int) ≤ c := by omega
        have g2 : (c : Int) ≤ 200 := by have := HQ2.out; omega
        clear hT3 hR3 hC3 HY KD HT HU HR c0 e0 e1 e2 z0 z1
        go_cut [] (fun wx => Hid (Ty wx gc (fun j => if j = l then (c : Int) - 2 else (cn (j : Int) X : Int))) ∧ Hid (Ro wx g k1 (m - 1) (mgB X l)) ∧ Hid (Up w0 wx))
        case first =>
          go_region
          all_goals go_wp2_with fail
          all_goals go_meet
          all_goals exact ⟨HT3, Lib.hid (Ro.far HR3.out hnp _), Lib.hid ((HU3.out.setCell hg _).drew)⟩
        case rest =>
          obtain ⟨HT4, HR4, HU4⟩ := hcut
          clear HT3 HR3 HU3 c3 z3
          rename_i w4
          have c4 := HT4.out.at_ (j := l + 1) (by omega)
          rw [if_neg (by omega)] at c4
          have z4 := Blk.frozen HT4.out (l + 1)
          have HT5 := Lib.hid (HT4.out.set_ (l + 1) ((cn ((l + 1 : Nat) : Int) X : Int) + 1))
          have g3 : ((cn ((l + 1 : Nat) : Int) X : Nat) : Int) ≤ 100001 := by have := cn_le ((l + 1 : Nat) : Int) X; omega
          have g4 : (0 : Int) ≤ ((cn ((l + 1 : Nat) : Int) X : Nat) : Int) := by omega
          obtain ⟨z, hz⟩ : ∃ z : Int, ((cn ((l + 1 : Nat) : Int) X : Nat) : Int) = z := ⟨_, rfl⟩
          rw [hz] at c4 HT5 g3 g4
          have g5 : (l : Int) + 1 < 31 := by omega
          have g6 : (0 : Int) ≤ (l : Int) + 1 := by omega
          have HZ := Lib.hid hz
          clear hz
          go_wp2_with fail
          go_cut [] (fun wx => Hid (Ty wx gc (fun j => (cn (j : Int) (mgB X l) : Int))) ∧ Hid (Ro wx g k1 (m - 1) (mgB X l)) ∧ Hid (Up w0 wx))
          case first =>
            go_region
            all_goals go_wp2_with fail
            all_goals go_meet
            all_goals refine ⟨Lib.hid (HT5.out.congr (fun j _ => ?_)), Lib.hid (Ro.far HR4.out hnp _), Lib.hid ((HU4.out.setCell hg _).drew)⟩
            rw [HCN.out]
            by_cases e1 : j = l + 1
            · rw [if_pos e1, if_neg (by omega), if_pos (by omega), e1, HZ.out]
            · rw [if_neg e1]
              by_cases e2 : j = l
              · rw [if_pos e2, if_pos (by omega), e2, hc]; rfl
              · rw [if_neg e2, if_neg (by omega), if_neg (by omega)]; exact (Int.add_zero _).symm
          case rest =>
            obtain ⟨HT6, HR6, HU6⟩ := hcut
            clear HT5 HT4 HR4 HU4 c4 z4
            go_wp2_with fail
            go_roundw
            case rel => exact ⟨l + 1, m - 1, mgB X l, _, rfl, rfl, by go_num, by omega, by omega, Lib.hid (by rw [show ((l + 1 : Nat) : Int) - 1 = (l : Int) by omega, HMG.out]; rfl), HT6, HR6, HU6, by exact HI3, by exact HP3⟩
            case measure => simp [intOf]; omega
end Go.Proofs.Ytnhekeohbnmodaa
