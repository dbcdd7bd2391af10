/- put of the reference of layer 10: one insertion, each time a new list. -/
import Derived.Test.YtfdjhahnggdklaaZGBasem8
import Derived.Test.YtfdjhahnggdklaaZGLawm3
import Derived.Test.YtfdjhahnggdklaaZHGrowm2
import Derived.Test.YtfdjhahnggdklaaZHOrdm2
import Derived.Test.YtfdjhahnggdklaaZHRowm3
import Derived.Test.YtfdjhahnggdklaaZHSmallm7
import Derived.Test.YtfdjhahnggdklaaZWCmpm5
import Derived.Test.YtfdjhahnggdklaaZWMathm9
namespace Go.Proofs.Ytfdjhahnggdklaa
open Go.RowKit

theorem append0B (ty : TypeId) (w0 w : World) (g : Nat) (hO : OwB w0 w (.slice (some ⟨g, 0, none⟩) 0 0) 0 []) (hu : Up w0 w) (A : Option Addr) (m c : Nat) (M : List It) (hS : Sl w A m M) (hlen : m ≤ 1000000) :
    ∃ A' k' w', (Builtin.append_ #[22, 22] ty #[.slice (some ⟨g, 0, none⟩) 0 0, .slice A m c]).run Try.prog w = .ok (.slice A' m k') w' ∧ OwB w0 w' (.slice A' m k') m M ∧ Up w w' := by
  by_cases h0 : m = 0
  · subst h0
    obtain ⟨i, hi, hz, hs, hb⟩ := info_parts bucket_info
    have ht := Try.underlying22
    have hM : M = [] := List.eq_nil_of_length_eq_zero hS.1
    subst hM
    refine ⟨_, _, w, ?_, hO, Up.refl _⟩
    have hl : ∀ (x : Addr), (loadCells x 0).run Try.prog w = .ok #[] w := fun x => by simpa using run_loadCells_list (P := Try.prog) w x [] (by simp)
    cases A <;> simp [Builtin.append_, run_underlying ht, sizeOf, typeInfo, hi, Builtin.lenOf, Builtin.firstCells, storeCells, hl]
  · obtain ⟨i, hi, hz, hs, hb⟩ := info_parts bucket_info
    have ht := Try.underlying22
    have hm : M.length = m := hS.1
    obtain ⟨b, o, rfl, hc⟩ := hS.2 (by omega)
    have hnews : ∀ j u, (fl M)[j]? = some u → w.cell? ((⟨b, o, none⟩ : Addr).add j) = some u := fun j u hj => by rw [add_at]; exact hc j u hj
    have hl : (fl M).length = m * i.size := by rw [fl_length, hm, hs]
    have h63 : 0 + m ≤ maxLen := by simp only [maxLen]; omega
    have hr := run_append_grow (P := Try.prog) w 22 ty 95 i _ ht hi hz ⟨g, 0, none⟩ 0 0 [] (by simp) (by intro j u hj; simp at hj) ⟨b, o, none⟩ m c (fl M) hl hnews (by omega) (by omega) (growslice_fits (by omega) (by rw [hb]; omega))
    simp only [Nat.zero_add] at hr
    refine ⟨_, _, _, hr, ?_, (Up.refl w).drew.alloc _ _⟩
    have hge := grownCap_ge w (0 + m) 0 95
    have hcm : grownCap w (0 + m) 0 95 ≤ maxLen := grownCap_le_maxLen w (0 + m) 0 _ h63
    simp only [Nat.zero_add] at hge hcm
    refine ⟨by rw [fl_length, hm], .inr ⟨w.heap.size, _, _, rfl, hu.size, heap_alloc_new w.drew _, hge, hcm, ?_, ?_⟩⟩
    · simp only [Array.size_append, List.size_toArray, size_zeroCells, hl, hs, show (Value.agg #[Value.int .i64 0, Value.int .i64 0]).cells.size = 2 from rfl]
      simp only [List.length_nil]
      omega
    · simp only [Array.toList_append, List.append_assoc]
      have : (fl M).length = m * 2 := by rw [fl_length, hm]
      rw [← this]
      exact List.take_left

theorem ownB_empty {w0 w : World} {g : Nat} (hg : g = w.heap.size) (h : w0.heap.size ≤ w.heap.size) : OwB w0 (w.alloc (.cells #[] 95)) (.slice (some ⟨g, 0, none⟩) 0 0) 0 [] := by
  subst hg
  exact ⟨rfl, Or.inr ⟨w.heap.size, 0, #[], rfl, h, Blk.new w _ _, Nat.le_refl _, Nat.zero_le _, rfl, rfl⟩⟩
theorem oneB' (w : World) (p0 p1 : Int) {g : Nat} (hg : g = w.heap.size) : Sl (w.alloc (.cells #[.int .i64 p0, .int .i64 p1] 95)) (some ⟨g, 0, none⟩) 1 [(p0, p1)] := by
  subst hg; exact oneB w p0 p1

theorem gt_first {X : List It} {l : Int} {i : Nat} (hd : Ds X) (hi : i < X.length) (hl : (X.getD i (0, 0)).2 = l) (hc : cn l (X.take i) = 0) : gt l X = i := by
  have hs : X.take i ++ X.drop i = X := List.take_append_drop i X
  rw [gD_at hi] at hl
  have h1 : gt l (X.take i) = i := by
    rw [gt_all, List.length_take, Nat.min_eq_left (by omega)]
    intro x hx
    have hne : x.2 ≠ l := by
      intro e
      have : 0 < cn l (X.take i) := cn_pos.2 ⟨x, hx, e⟩
      omega
    obtain ⟨j, hj, rfl⟩ := List.mem_iff_getElem.1 hx
    rw [List.length_take] at hj
    rw [List.getElem_take] at hne ⊢
    have := List.pairwise_iff_getElem.1 hd j i (by omega) hi (by omega)
    omega
  have h2 : gt l (X.drop i) = 0 := by
    refine gt_zero (fun x hx => ?_)
    obtain ⟨j, hj, rfl⟩ := List.mem_iff_getElem.1 hx
    rw [List.length_drop] at hj
    rw [List.getElem_drop]
    cases j with
    | zero => simp only [Nat.add_zero]; omega
    | succ j =>
      have := List.pairwise_iff_getElem.1 hd i (i + (j + 1)) hi (by omega) (by omega)
      omega
  rw [← hs, gt_app, h1, h2]
  rfl
/-- Where the first bucket of a level was seen. -/
def fsZ (X : List It) (l : Int) (c : Nat) : Int := if c = 0 then -1 else (gt l X : Int)

set_option maxHeartbeats 4000000 in
set_option maxRecDepth 100000 in
theorem rput_up (n k : Nat) (A : Option Addr) (L : List It) (q t T : Int) (w : World) (hS : Sl w A n L) (hI : Iv (L ++ [(t, 0)]) q 0 T t) (hT30 : T ≤ 1073741824) (hn : n ≤ 90000) :
    Calls Try.prog 80 #[.slice A n k, .int .i64 q, .int .i64 t] w fun e w' => ∃ A' n' k', e = .returned (.slice A' n' k') ∧ n' ≤ n + 1 ∧ OwB w w' (.slice A' n' k') n' (puB q t L) ∧ Up w w' := by
  obtain ⟨A1, k1, w1, hr1, o1, u1, _⟩ := appendB 22 w (w.alloc (.cells #[] 95)) _ 0 [] (OwB.empty (Up.refl w)) ((Up.refl w).alloc _ _) A n k L (hS.up ((Up.refl w).alloc _ _)) (by omega)
  simp only [Nat.zero_add, List.nil_append] at hr1 o1
  obtain ⟨A2, k2, w2, hr2, o2, u2, _⟩ := appendB 22 w (w1.alloc (.cells #[.int .i64 t, .int .i64 0] 95)) _ n L (o1.of_up ((Up.refl _).alloc _ _)) (u1.alloc _ _) (some ⟨w1.heap.size, 0, none⟩) 1 1 [(t, 0)] (oneB w1 t 0) (by omega)
  have R1 := Lib.hid hr1
  have R2 := Lib.hid hr2
  have HO := Lib.hid o2
  have HU := Lib.hid u2
  have HI := Lib.hid hI
  have HP : Hid (puS q 31 0 (L ++ [(t, 0)]) = puB q t L) := Lib.hid rfl
  generalize puB q t L = Z at *
  generalize L ++ [(t, 0)] = X0 at *
  have hk := hI.k2
  have hk1 := hI.k1
  clear hr1 hr2 o1 o2 u1 u2 hI hS
  go_enter Try.func80, Try.ntmps80
  go_wp2_with (first | (refine wpList_append_run (o := ⟨some 16, _, _, _, _, _⟩) rfl (.tmp 14) (.tmp 15) _ rfl _ _ rfl rfl _ _ R1.out ?_) | (refine wpList_append_run (o := ⟨some 20, _, _, _, _, _⟩) rfl (.tmp 16) (.tmp 19) _ rfl _ _ rfl rfl _ _ R2.out ?_))
  go_loopw [7, 8] (fun s7 s8 wr => ∃ (l m k' : Nat) (X : List It) (A' : Option Addr), s7 = .slice A' m k' ∧ s8 = .int .i64 l ∧ l ≤ 30 ∧ m ≤ n + 1 ∧ Hid (OwB w wr (.slice A' m k') m X) ∧ Hid (Up w wr) ∧ Hid (Iv X q l T t) ∧ Hid (puS q (31 - l) l X = Z)) (fun _ s8 _ => 31 - (intOf s8).toNat)
  case atStart => exact ⟨0, n + 1, _, X0, _, rfl, rfl, by omega, Nat.le_refl _, HO, HU, HI, HP⟩
  case round =>
    clear HI HP HO HU
    obtain ⟨l, m, k', X, A', rfl, rfl, hl, hm, HO, HU, HI, HP⟩ := hrel
    have f1 : (l : Int) ≤ 30 := by omega
    obtain ⟨A3, c3, e3, hmk, hSX⟩ := HO.out.sl
    cases e3
    have HS := Lib.hid hSX
    have HL := Lib.hid hSX.1
    clear hSX
    go_wp2_with fail
    go_loopw [9, 10, 27] (fun s9 s10 s27 wi => ∃ i c : Nat, s9 = .int .i64 (fsZ X l c) ∧ s10 = .int .i64 c ∧ s27 = .int .i64 i ∧ i ≤ m ∧ c ≤ i ∧ Hid (c = cn (l : Int) (X.take i)) ∧ Hid (Up wr wi)) (fun _ _ s27 _ => m - (intOf s27).toNat)
    case atStart => exact ⟨0, 0, rfl, rfl, rfl, by omega, by omega, Lib.hid rfl, Lib.hid (Up.refl _)⟩
    case round =>
      obtain ⟨i, c, rfl, rfl, rfl, hi, hci, HC, HUi⟩ := hrel
      by_cases him : i < m
      · obtain ⟨b, o, rfl, d0, d1⟩ := (HS.out.up HUi.out).at_ him
        have HN := Lib.hid (cn_take (L := X) (i := i) (by rw [HL.out]; exact him) (l : Int))
        have HF := Lib.hid (fun h1 h2 => gt_first (X := X) (l := (l : Int)) (i := i) HI.out.ds (by rw [HL.out]; exact him) h1 h2)
        have hgx := gt_le (l : Int) X
        rw [HL.out] at hgx
        generalize (X.getD i (0, 0)).1 = p0 at *
        generalize (X.getD i (0, 0)).2 = p1 at *
        have f2 : (i : Int) < m := by omega
        have f3 : (0 : Int) ≤ i := by omega
        by_cases hp : p1 = l
        · have e1 : cn (l : Int) (X.take (i + 1)) = c + 1 := by rw [HN.out, if_pos hp, ← HC.out]
          have t1 : (p1 == (l : Int)) = true := by simp [hp]
          cases c with
          | zero =>
            have e2 : fsZ X l (0 + 1) = (i : Int) := by unfold fsZ; rw [if_neg (by omega), HF.out hp HC.out.symm]
            have E1 := Lib.hid e1
            have E2 := Lib.hid e2
            have e0 : fsZ X l 0 = -1 := rfl
            rw [e0]
            clear hp e1 e2 e0 HF HN
            go_wp2_with fail
            go_roundw
            case rel => exact ⟨i + 1, 0 + 1, by rw [E2.out], by go_num, by go_num, by omega, by omega, Lib.hid E1.out.symm, Lib.hid (HUi.out.alloc _ _)⟩
            case measure => simp [intOf]; omega
          | succ c =>
            have e2 : fsZ X l (c + 1) = (gt (l : Int) X : Int) := by unfold fsZ; rw [if_neg (by omega)]
            have e3 : fsZ X l (c + 1 + 1) = (gt (l : Int) X : Int) := by unfold fsZ; rw [if_neg (by omega)]
            have E1 := Lib.hid e1
            have E3 := Lib.hid e3
            rw [e2]
            clear hp e1 e2 e3 HF HN
            generalize gt (l : Int) X = z at *
            have f4 : ¬ (z : Int) < 0 := by omega
            go_wp2_with fail
            go_roundw
            case rel => exact ⟨i + 1, c + 1 + 1, by rw [E3.out], by go_num, by go_num, by omega, by omega, Lib.hid E1.out.symm, Lib.hid (HUi.out.alloc _ _)⟩
            case measure => simp [intOf]; omega
        · have e1 : cn (l : Int) (X.take (i + 1)) = c := by rw [HN.out, if_neg hp, ← HC.out]; rfl
          have t1 : (p1 == (l : Int)) = false := by simp [hp]
          have E1 := Lib.hid e1
          obtain ⟨z, hzz⟩ : ∃ z, fsZ X l c = z := ⟨_, rfl⟩
          have HZ := Lib.hid hzz
          rw [hzz]
          clear hp e1 HF HN hzz
          go_wp2_with fail
          go_roundw
          case rel => exact ⟨i + 1, c, by rw [HZ.out], by go_num, by go_num, by omega, by omega, Lib.hid E1.out.symm, Lib.hid (HUi.out.alloc _ _)⟩
          case measure => simp [intOf]; omega
      · obtain rfl : i = m := by omega
        have hc : c = cn (l : Int) X := by rw [HC.out, take_all HL.out]
        by_cases hz : (cn (l : Int) X : Int) ≤ q + 1
        · obtain rfl : Z = X := by rw [← HP.out, puS_at hz]
          have hz1 : (c : Int) ≤ q + 1 := by rw [hc]; exact hz
          clear HI HP HC hc hz
          generalize fsZ Z l c = z at *
          go_wp2_with fail
          go_ret
          exact ⟨_, _, _, rfl, hm, HO.out.of_up HUi.out, HU.out.trans HUi.out⟩
        · obtain ⟨h30, hq2, hc2, HI2⟩ := HI.out.next hT30 (by omega) hz
          have hst := gt_step ((l : Int) - 1) X
          rw [show (l : Int) - 1 + 1 = l by omega] at hst
          have hgl := gt_le ((l : Int) - 1) X
          rw [HL.out, hst] at hgl
          have hml := mg_len HI.out.ds hc2
          have hP2 : puS q (31 - (l + 1)) ((l : Int) + 1) (mgB X l) = Z := by
            rw [← HP.out, show 31 - l = (31 - (l + 1)) + 1 by omega, puS_step hz]
          have hfz : fsZ X l c = (gt (l : Int) X : Int) := by unfold fsZ; rw [if_neg (by omega)]
          obtain ⟨f, hf⟩ : ∃ f, gt (l : Int) X = f := ⟨_, rfl⟩
          rw [hf] at hgl hfz
          have hmx : mgB X l = X.take f ++ ((X.getD (f + 1) (0, 0)).1, (l : Int) + 1) :: X.drop (f + 2) := by unfold mgB; rw [hf]
          rw [hfz]
          have hz1 : ¬ (c : Int) ≤ q + 1 := by rw [hc]; exact hz
          obtain ⟨g, hAg, hg0, hRo⟩ := HO.out.ro (by omega)
          subst hAg
          have hR1 := hRo.up HUi.out
          obtain ⟨bb, oo, hbo, e0, _⟩ := hR1.sl.at_ (show f + 1 < i by omega)
          cases hbo
          rw [Nat.zero_add] at e0
          have hlenX := HL.out
          have hUw := HU.out.trans HUi.out
          have HUW := Lib.hid hUw
          have HR1 := Lib.hid hR1
          have HMX := Lib.hid hmx
          have HI3 : Hid (Iv (mgB X l) q ((l + 1 : Nat) : Int) T t) := Lib.hid HI2
          have HP3 : Hid (puS q (31 - (l + 1)) ((l + 1 : Nat) : Int) (mgB X l) = Z) := Lib.hid hP2
          have f6 : (f : Int) < i := by omega
          have f7 : (f : Int) + 1 < i := by omega
          have f8 : (0 : Int) ≤ f := by omega
          have f9 : (0 : Int) ≤ (f : Int) + 1 := by omega
          have f10 : f + 2 < i := by omega
          generalize (X.getD (f + 1) (0, 0)).1 = p at *
          clear hc hz hq2 hc2 HI2 hst hgl hml hP2 hfz hmx hUw hR1 hRo HI HP HC HO HS hf
          go_wp2_with fail
          have hbv := size_alloc wr (.cells #[.int .i64 p, .int .i64 ((l : Int) + 1)] 95)
          have b0 : (wr.alloc (.cells #[.int .i64 p, .int .i64 ((l : Int) + 1)] 95)).cell? ⟨wr.heap.size, 0, none⟩ = some (.int .i64 p) := by simp [go_sem]
          have b1 : (wr.alloc (.cells #[.int .i64 p, .int .i64 ((l : Int) + 1)] 95)).cell? ⟨wr.heap.size, 1, none⟩ = some (.int .i64 ((l : Int) + 1)) := by simp [go_sem]
          have HUV := Lib.hid (HUW.out.alloc #[.int .i64 p, .int .i64 ((l : Int) + 1)] 95)
          have HRV := Lib.hid (HR1.out.up ((Up.refl _).alloc #[.int .i64 p, .int .i64 ((l : Int) + 1)] 95))
          generalize wr.alloc (.cells #[.int .i64 p, .int .i64 ((l : Int) + 1)] 95) = W at *
          have hsT := fun V => sliceTo_run g i k' f (by omega) V
          have hsF : ∀ V, (Instr.slice 22 (.slice (some ⟨g, 0, none⟩) i k') (some (.int .i64 ((f : Int) + 2))) none none).run Try.prog V = .ok (.slice (some ⟨g, (f + 2) * 2, none⟩) (i - (f + 2)) (k' - (f + 2))) V := fun V => by
            have := sliceFrom_run (some ⟨g, 0, none⟩) i k' (f + 2) (by omega) V
            rw [if_neg (show ¬ k' = f + 2 by omega), Option.map_some, add_at, Nat.zero_add] at this
            exact this
          have hsl := HRV.out.sl
          have hSt : Sl W (some ⟨g, 0, none⟩) f (X.take f) := hsl.first (by omega)
          have hSd : Sl W (some ⟨g, (f + 2) * 2, none⟩) (i - (f + 2)) (X.drop (f + 2)) := by
            have := hsl.cut (k := f + 2) (cap := k') (by omega) HRV.out.le
            rw [if_neg (show ¬ k' = f + 2 by omega), Option.map_some, add_at, Nat.zero_add] at this
            exact this
          have hcat : X.take f ++ [(p, (l : Int) + 1)] ++ X.drop (f + 2) = mgB X l := by rw [HMX.out, List.append_assoc]; rfl
          have hln : f + 1 + (i - (f + 2)) = i - 1 := by omega
          have hf9 : f ≤ 100000 := by omega
          have hi9 : i ≤ 100000 := by omega
          have hUV := HUV.out
          have f11 : IntKind.i64.wrap ((f : Int) + 2) = (f : Int) + 2 := by rw [IntKind.wrap_i64]; omega
          have f12 : (f : Int) + 2 < i := by omega
          obtain ⟨A1a, k1a, w6a, r1, o1, u1⟩ := append0B 22 W (W.drew.alloc (.cells #[] 95)) W.heap.size (ownB_empty (w := W.drew) rfl (Nat.le_refl _)) ((Up.refl W).drew.alloc _ _) (some ⟨g, 0, none⟩) f k' (X.take f) (hSt.up ((Up.refl W).drew.alloc _ _)) (by omega)
          have v1 : Up W w6a := ((Up.refl W).drew.alloc _ _).trans u1
          obtain ⟨A2a, k2a, w7a, r2, o2, u2, _⟩ := appendB 22 W (w6a.alloc (.cells #[.int .i64 p, .int .i64 ((l : Int) + 1)] 95)) _ f (X.take f) (o1.of_up ((Up.refl _).alloc _ _)) (v1.alloc _ _) (some ⟨w6a.heap.size, 0, none⟩) 1 1 [(p, (l : Int) + 1)] (oneB w6a p ((l : Int) + 1)) (by omega)
          obtain ⟨A3a, k3a, w8a, r3, o3, u3, _⟩ := appendB 22 W w7a _ (f + 1) _ o2 u2 (some ⟨g, (f + 2) * 2, none⟩) (i - (f + 2)) (k' - (f + 2)) (X.drop (f + 2)) (hSd.up u2) (by omega)
          rw [hcat, hln] at o3
          rw [hln] at r3
          have LAa := Lib.hid (And.intro (o3.weak hUV.size) (hUV.trans u3))
          have R1a := Lib.hid r1
          have R2a := Lib.hid r2
          have R3a := Lib.hid r3
          have b0a := v1.keep _ _ _ b0
          have b1a := v1.keep _ _ _ b1
          have lta : wr.heap.size < w6a.heap.size := World.block_lt_of_cell? _ _ b0a
          clear r1 r2 r3 o1 o2 o3 u1 u2 u3 v1
          obtain ⟨A1b, k1b, w6b, r1, o1, u1⟩ := append0B 22 W ((W.drew.alloc (.cells #[] 95)).alloc (.cells #[.int .i64 p, .int .i64 ((l : Int) + 1)] 95)) W.heap.size ((ownB_empty (w := W.drew) rfl (Nat.le_refl _)).of_up ((Up.refl _).alloc _ _)) (((Up.refl W).drew.alloc _ _).alloc _ _) (some ⟨g, 0, none⟩) f k' (X.take f) (hSt.up (((Up.refl W).drew.alloc _ _).alloc _ _)) (by omega)
          have v1 : Up W w6b := (((Up.refl W).drew.alloc _ _).alloc _ _).trans u1
          obtain ⟨A2b, k2b, w7b, r2, o2, u2, _⟩ := appendB 22 W w6b _ f (X.take f) o1 v1 (some ⟨(W.heap.size + 1), 0, none⟩) 1 1 [(p, (l : Int) + 1)] ((oneB' _ p ((l : Int) + 1) (by simp)).up u1) (by omega)
          obtain ⟨A3b, k3b, w8b, r3, o3, u3, _⟩ := appendB 22 W w7b _ (f + 1) _ o2 u2 (some ⟨g, (f + 2) * 2, none⟩) (i - (f + 2)) (k' - (f + 2)) (X.drop (f + 2)) (hSd.up u2) (by omega)
          rw [hcat, hln] at o3
          rw [hln] at r3
          have LAb := Lib.hid (And.intro (o3.weak hUV.size) (hUV.trans u3))
          have R1b := Lib.hid r1
          have R2b := Lib.hid r2
          have R3b := Lib.hid r3
          have b0b := v1.keep _ _ _ b0
          have b1b := v1.keep _ _ _ b1
          clear r1 r2 r3 o1 o2 o3 u1 u2 u3 v1
          obtain ⟨A1c, k1c, w6c, r1, o1, u1⟩ := append0B 22 W ((W.drew.alloc (.cells #[.int .i64 p, .int .i64 ((l : Int) + 1)] 95)).alloc (.cells #[] 95)) (W.heap.size + 1) (ownB_empty (by simp) (by simp)) (((Up.refl W).drew.alloc _ _).alloc _ _) (some ⟨g, 0, none⟩) f k' (X.take f) (hSt.up (((Up.refl W).drew.alloc _ _).alloc _ _)) (by omega)
          have v1 : Up W w6c := (((Up.refl W).drew.alloc _ _).alloc _ _).trans u1
          obtain ⟨A2c, k2c, w7c, r2, o2, u2, _⟩ := appendB 22 W w6c _ f (X.take f) o1 v1 (some ⟨W.heap.size, 0, none⟩) 1 1 [(p, (l : Int) + 1)] (((oneB' W.drew p ((l : Int) + 1) rfl).up ((Up.refl _).alloc _ _)).up u1) (by omega)
          obtain ⟨A3c, k3c, w8c, r3, o3, u3, _⟩ := appendB 22 W w7c _ (f + 1) _ o2 u2 (some ⟨g, (f + 2) * 2, none⟩) (i - (f + 2)) (k' - (f + 2)) (X.drop (f + 2)) (hSd.up u2) (by omega)
          rw [hcat, hln] at o3
          rw [hln] at r3
          have LAc := Lib.hid (And.intro (o3.weak hUV.size) (hUV.trans u3))
          have R1c := Lib.hid r1
          have R2c := Lib.hid r2
          have R3c := Lib.hid r3
          have b0c := v1.keep _ _ _ b0
          have b1c := v1.keep _ _ _ b1
          clear r1 r2 r3 o1 o2 o3 u1 u2 u3 v1
          clear hSt hSd hsl hcat hln hf9 hi9 hUV hbv
          have ltb := World.block_lt_of_cell? _ _ b0
          simp only at ltb
          have hlt1 : wr.heap.size < W.heap.size + 1 := by omega
          go_region_law (first
            | ((with_reducible refine step_append_run rfl (.tmp 56) (.tmp 59) _ rfl _ _ ?_ ?_ _ _ R1a.out ?_); rfl; rfl)
            | ((with_reducible refine step_append_run rfl (.tmp 60) (.tmp 62) _ rfl _ _ ?_ ?_ _ _ R2a.out ?_); rfl; rfl)
            | ((with_reducible refine step_append_run rfl (.tmp 63) (.tmp 67) _ rfl _ _ ?_ ?_ _ _ R3a.out ?_); rfl; rfl)
            | ((with_reducible refine step_append_run rfl (.tmp 56) (.tmp 59) _ rfl _ _ ?_ ?_ _ _ R1b.out ?_); rfl; rfl)
            | ((with_reducible refine step_append_run rfl (.tmp 60) (.tmp 62) _ rfl _ _ ?_ ?_ _ _ R2b.out ?_); rfl; rfl)
            | ((with_reducible refine step_append_run rfl (.tmp 63) (.tmp 67) _ rfl _ _ ?_ ?_ _ _ R3b.out ?_); rfl; rfl)
            | ((with_reducible refine step_append_run rfl (.tmp 56) (.tmp 59) _ rfl _ _ ?_ ?_ _ _ R1c.out ?_); rfl; rfl)
            | ((with_reducible refine step_append_run rfl (.tmp 60) (.tmp 62) _ rfl _ _ ?_ ?_ _ _ R2c.out ?_); rfl; rfl)
            | ((with_reducible refine step_append_run rfl (.tmp 63) (.tmp 67) _ rfl _ _ ?_ ?_ _ _ R3c.out ?_); rfl; rfl))
          all_goals go_wp2_with fail
          all_goals go_roundw
          all_goals first
            | (with_reducible exact ⟨l + 1, i - 1, _, mgB X l, _, rfl, by go_num, by omega, by omega, Lib.hid LAa.out.1, Lib.hid LAa.out.2, HI3, HP3⟩)
            | (with_reducible exact ⟨l + 1, i - 1, _, mgB X l, _, rfl, by go_num, by omega, by omega, Lib.hid LAb.out.1, Lib.hid LAb.out.2, HI3, HP3⟩)
            | (with_reducible exact ⟨l + 1, i - 1, _, mgB X l, _, rfl, by go_num, by omega, by omega, Lib.hid LAc.out.1, Lib.hid LAc.out.2, HI3, HP3⟩)
            | (simp [intOf]; omega)
end Go.Proofs.Ytfdjhahnggdklaa
