/- Texts of these claims, one after the other. -/
import Derived.Test.YtchikndofpkjmaaRows
import Derived.Test.YtchikndofpkjmaaZKNewq125
namespace Go.Proofs.Ytchikndofpkjmaa
open Go.RowKit
set_option linter.unusedVariables false

theorem makeM_run (c : Nat) (hc : c ≤ 100000) (w : World) : ∃ cs : Array Value, cs.size = (c + 1) * 7 ∧ (Instr.makeSlice 24 (.int .i64 0) (.int .i64 ((c : Int) + 1))).run Try.prog w = .ok (.slice (some ⟨w.heap.size, 0, none⟩) 0 (c + 1)) (w.alloc (.cells cs 23)) := by
  obtain ⟨i, hi, hz, hs, hb⟩ := info_parts mark_info
  have := run_make (P := Try.prog) w 24 23 i _ Try.underlying24 hi hz .i64 .i64 0 ((c + 1 : Nat) : Int) (by omega) (by omega) (by rw [hb]; omega) (by omega)
  rw [show ((c : Int) + 1) = ((c + 1 : Nat) : Int) by omega]
  refine ⟨_, ?_, this⟩
  rw [hs]
  simp [madeCells]
theorem OwM.made {w0 w : World} (hu : w0.heap.size ≤ w.heap.size) (cs : Array Value) (c : Nat) (hc : c ≤ 1000000) (hs : cs.size = c * 7) : OwM w0 (w.alloc (.cells cs 23)) (.slice (some ⟨w.heap.size, 0, none⟩) 0 c) 0 [] :=
  ⟨rfl, by simp [flG], Or.inr ⟨w.heap.size, c, cs, rfl, hu, heap_alloc_new w _, Nat.zero_le _, by simp [maxLen]; omega, hs, by simp [flG]⟩⟩
/-- A sum and a product of a mark's numbers and a value. -/
theorem inc_fits {m : Mrk} {v : Int} (h : bdM m) (h1 : -4096 ≤ v) (h2 : v ≤ 4096) : IntKind.i64.wrap (m.n + 1) = m.n + 1 ∧ IntKind.i64.wrap (m.s + v) = m.s + v ∧ IntKind.i64.wrap (v * v) = v * v ∧ IntKind.i64.wrap (m.q + v * v) = m.q + v * v := by
  obtain ⟨a, b, c, _⟩ := h
  have y1 := sq_bd (x := v) (m := 4096) (by omega) h2
  have y2 := sq_nn v
  refine ⟨?_, ?_, ?_, ?_⟩ <;> rw [IntKind.wrap_i64] <;> omega
theorem take_map {v : Int} {X : List Mrk} {i : Nat} (h : i < X.length) : (X.take (i + 1)).map (incM v) = (X.take i).map (incM v) ++ [incM v (X.getD i mk0)] := by
  rw [List.take_succ_eq_append_getElem h, List.map_append, List.map_singleton]
  simp [List.getD, h]

set_option maxHeartbeats 4000000 in
set_option maxRecDepth 100000 in
theorem extended_up (n k : Nat) (A : Option Addr) (X : List Mrk) (seq now v : Int) (hn : n ≤ 50000) (hX : ∀ j, j < n → bdM (X.getD j mk0)) (hv1 : -4096 ≤ v) (hv2 : v ≤ 4096) (w : World) (hS : SG cM w A n X) :
    Calls Try.prog 56 #[.slice A n k, .int .i64 seq, .int .i64 now, .int .i64 v] w fun e w' => ∃ A' k', e = .returned (.slice A' (n + 1) k') ∧ Up w w' ∧ SG cM w' A' (n + 1) (inM seq now v X) := by
  have HL := Lib.hid hS.1
  have HS := Lib.hid hS
  have HX := Lib.hid hX
  obtain ⟨cs, hcs, hmk⟩ := makeM_run n (by omega) w
  have HM0 := Lib.hid (OwM.made (w0 := w) (w := w) (Nat.le_refl _) cs (n + 1) (by omega) hcs)
  have z1 : IntKind.i64.wrap (v * v) = v * v := (inc_fits (m := ⟨1, 0, 1, 0, 0, 0, 0⟩) ⟨by simp, by simp, by simp, by simp, by simp, by simp⟩ hv1 hv2).2.2.1
  clear hS hX hcs
  go_enter Try.func56, Try.ntmps56
  go_wp2_with fail
  go_loopw [9, 18] (fun t9 t wr => ∃ (i : Nat) (B : Option Addr) (kb : Nat), t9 = .slice B i kb ∧ t = .int .i64 i ∧ i ≤ n ∧ Hid (OwM w wr (.slice B i kb) i ((X.take i).map (incM v))) ∧ Hid (Up w wr)) (fun _ t _ => n - (intOf t).toNat)
  case atStart => exact ⟨0, _, _, rfl, rfl, Nat.zero_le _, HM0, Lib.hid ((Up.refl w).alloc _ _)⟩
  case round =>
    obtain ⟨i, B, kb, rfl, rfl, hin, HO, HW⟩ := hrel
    by_cases hi' : i < n
    · obtain ⟨b, o, rfl, d0, d1, d2, d3, d4, d5, d6⟩ := mrk_at (HS.out.up HW.out) mk0 hi'
      have HT := Lib.hid (take_map (v := v) (X := X) (i := i) (by rw [HL.out]; exact hi'))
      obtain ⟨y1, y2, _, y3⟩ := inc_fits (HX.out i hi') hv1 hv2
      generalize X.getD i mk0 = M at *
      obtain ⟨sq, t, nn, s, qq, lo, hi⟩ := M
      simp only at d0 d1 d2 d3 d4 d5 d6 y1 y2 y3
      have f20 : (i : Int) < n := by omega
      have f30 : (0 : Int) ≤ i := by omega
      go_upto_region 9 with fail
      refine (show ∀ W9 : World, W9 = _ → Code.wp _ _ _ _ W9 from fun W9 hW9 => ?_) _ rfl
      have cW9_0 : W9.cell? ⟨wr.heap.size, 0, none⟩ = some (.int .i64 sq) := by rw [hW9]; simp [go_sem]
      have cW9_1 : W9.cell? ⟨wr.heap.size, 1, none⟩ = some (.int .i64 t) := by rw [hW9]; simp [go_sem]
      have cW9_2 : W9.cell? ⟨wr.heap.size, 2, none⟩ = some (.int .i64 (nn + 1)) := by rw [hW9]; simp [go_sem]
      have cW9_3 : W9.cell? ⟨wr.heap.size, 3, none⟩ = some (.int .i64 (s + v)) := by rw [hW9]; simp [go_sem]
      have cW9_4 : W9.cell? ⟨wr.heap.size, 4, none⟩ = some (.int .i64 (qq + v * v)) := by rw [hW9]; simp [go_sem]
      have cW9_5 : W9.cell? ⟨wr.heap.size, 5, none⟩ = some (.int .i64 (min lo v)) := by rw [hW9]; simp [go_sem]; (split <;> omega)
      have cW9_6 : W9.cell? ⟨wr.heap.size, 6, none⟩ = some (.int .i64 (max hi v)) := by rw [hW9]; simp [go_sem]; (split <;> omega)
      have UW9 : Hid (Up wr W9) := Lib.hid (by rw [hW9]; repeat (first | exact Up.refl _ | refine Up.alloc ?_ _ _ | refine Up.setCell ?_ (by first | (simp; done) | (simp; omega) | omega) _ | refine Up.drewN ?_ _ | refine Up.drew ?_))
      clear hW9
      obtain ⟨A2, k2, w2, hr, hO2, hU2⟩ := append1M w W9 B i kb _ sq t (nn + 1) (s + v) (qq + v * v) (min lo v) (max hi v) ⟨HO.out.1, HO.out.2.of_up UW9.out⟩ (HW.out.trans UW9.out) (by omega)
      have HO2 := Lib.hid hO2
      have HU2 := Lib.hid hU2
      clear hO2 hU2
      go_wp2_with (refine wpList_append_run (o := ⟨some 51, _, _, _, _, _⟩) rfl (.tmp 48) (.tmp 50) _ rfl _ _ rfl rfl _ _ hr ?_)
      go_roundw
      case rel => exact ⟨i + 1, A2, k2, rfl, by go_num, by omega, Lib.hid (by rw [HT.out]; exact HO2.out), HU2⟩
      case measure => simp [intOf]; omega
    · obtain rfl : i = n := by omega
      go_upto_region 11 with fail
      obtain ⟨A2, k2, w2, hr, hO2, hU2⟩ := append1M w wr B i kb _ seq now 1 v (v * v) v v HO.out HW.out (by omega)
      have HO2 := Lib.hid hO2
      have HU2 := Lib.hid hU2
      clear hO2 hU2
      go_wp2_with (refine wpList_append_run (o := ⟨some 64, _, _, _, _, _⟩) rfl (.tmp 53) (.tmp 63) _ rfl _ _ rfl rfl _ _ hr ?_)
      go_ret
      exact ⟨A2, k2, rfl, HU2.out, by
        have h := (OG.sg HO2.out).2
        rw [show X.take i = X by rw [← HL.out]; exact List.take_length] at h
        exact h⟩

theorem prune_step {g k : Int} {n i nx : Nat} {X M Z : List Mrk} (hk : 1 ≤ k) (hl : X.length = n) (hi : i < n) (hanti : ∀ i j, i ≤ j → j < n → ofZ g (X.getD j mk0) ≤ ofZ g (X.getD i mk0)) (h : M ++ prL (clM g k) (n - i) (X.drop i) = Z) (h1 : i + 1 ≤ nx) (h2 : nx < n ∨ nx = i + 1) (h3 : i + 1 < nx → clM g k (X.getD i mk0) (X.getD nx mk0) = true) (h4 : nx + 1 < n → clM g k (X.getD i mk0) (X.getD (nx + 1) mk0) = false) : (M ++ [X.getD i mk0]) ++ prL (clM g k) (n - nx) (X.drop nx) = Z := by
  have e1 : X.drop i = X.getD i mk0 :: X.drop (i + 1) := by
    rw [List.drop_eq_getElem_cons (by omega)]; simp [List.getD, show i < X.length by omega]
  rw [e1, show n - i = (n - i - 1) + 1 by omega] at h
  have h := prL_go h
  rw [cutL_pru mk0 h1 (by rw [hl]; exact h2) h3 (fun j hj1 hj2 => by
    rw [hl] at hj2
    exact clM_anti hk (hanti (nx + 1) j (by omega) hj2) (h4 (by omega)))] at h
  rw [prL_fuel (clM g k) (n - nx) (n - i - 1) (X.drop nx) (by rw [List.length_drop]; omega) (by rw [List.length_drop]; omega)]
  exact h

set_option maxHeartbeats 4000000 in
set_option maxRecDepth 100000 in
theorem pruned_up (g q : Int) (b1 a1 n k : Nat) (A : Option Addr) (X : List Mrk) (hn : n ≤ 50001) (hq : 1 ≤ q ∧ q ≤ 64) (hX : ∀ j, j < n → bdG g (X.getD j mk0)) (hanti : ∀ i j, i ≤ j → j < n → ofZ g (X.getD j mk0) ≤ ofZ g (X.getD i mk0)) (w : World) (hS : SG cM w A n X) (hb : w.cell? ⟨b1, 0, none⟩ = some (.int .i64 q)) (ha : w.cell? ⟨a1, 0, none⟩ = some (.int .i64 g)) :
    Calls Try.prog 55 #[.slice A n k, .func (.func 85) #[] #[.pointer (some ⟨b1, 0, none⟩), .pointer (some ⟨a1, 0, none⟩)]] w fun e w' => ∃ A' n' k', e = .returned (.slice A' n' k') ∧ n' ≤ n ∧ n' ≤ k' ∧ Nw w A' ∧ Up w w' ∧ SG cM w' A' n' (prL (clM g q) n X) := by
  have HL := Lib.hid hS.1
  have HS := Lib.hid hS
  have HX := Lib.hid hX
  have HN := Lib.hid hanti
  have KC := Lib.hid (fun P M (h1 : bdG g P) (h2 : bdG g M) W (h : Up w W) => nearC_up b1 a1 q g P.sq P.t P.n P.s P.q P.lo P.hi M.sq M.t M.n M.s M.q M.lo M.hi hq h1 h2 W (h.keep _ _ _ hb) (h.keep _ _ _ ha))
  have HZ0 : Hid (∀ Z, prL (clM g q) n X = Z → [] ++ prL (clM g q) (n - 0) (X.drop 0) = Z) := Lib.hid (fun Z h => h)
  obtain ⟨Z, hZ⟩ : ∃ Z, prL (clM g q) n X = Z := ⟨_, rfl⟩
  have HZ1 := Lib.hid (HZ0.out Z hZ)
  rw [hZ]
  clear hS hX hanti hb ha hZ HZ0
  go_enter Try.func55, Try.ntmps55
  go_wp2_with fail
  go_loopw [5, 6] (fun t5 t6 wr => ∃ (i m : Nat) (B : Option Addr) (kb : Nat) (M : List Mrk), t5 = .slice B m kb ∧ t6 = .int .i64 i ∧ i ≤ n ∧ m ≤ i ∧ Hid (OwM w wr (.slice B m kb) m M) ∧ Hid (M ++ prL (clM g q) (n - i) (X.drop i) = Z) ∧ Hid (Up w wr)) (fun _ t _ => n - (intOf t).toNat)
  case atStart => exact ⟨0, 0, none, 0, [], rfl, rfl, Nat.zero_le _, Nat.le_refl _, Lib.hid (OG.nil _ _ _), HZ1, Lib.hid (Up.refl w)⟩
  case round =>
    obtain ⟨i, m, B, kb, M, rfl, rfl, hin, hmi, HO, HZ, HW⟩ := hrel
    by_cases hi' : i < n
    · have HSr := Lib.hid (HS.out.up HW.out)
      obtain ⟨b, o, rfl, d0, d1, d2, d3, d4, d5, d6⟩ := mrk_at HSr.out mk0 hi'
      have HXi := Lib.hid (HX.out i hi')
      have HP : Hid (∀ nx, i + 1 ≤ nx → (nx < n ∨ nx = i + 1) → (i + 1 < nx → clM g q (X.getD i mk0) (X.getD nx mk0) = true) → (nx + 1 < n → clM g q (X.getD i mk0) (X.getD (nx + 1) mk0) = false) → (M ++ [X.getD i mk0]) ++ prL (clM g q) (n - nx) (X.drop nx) = Z) := Lib.hid (fun nx h1 h2 h3 h4 => prune_step hq.1 HL.out hi' HN.out HZ.out h1 h2 h3 h4)
      generalize hMi : X.getD i mk0 = Mi at *
      obtain ⟨sq, t, nn, s, qq, lo, hi⟩ := Mi
      have hMi := Lib.hid hMi
      simp only at d0 d1 d2 d3 d4 d5 d6
      have f20 : (i : Int) < n := by omega
      have f30 : (0 : Int) ≤ i := by omega
      obtain ⟨A2, k2, w2, hr, hO2, hU2⟩ := append1M w wr B m kb M sq t nn s qq lo hi HO.out HW.out (by omega)
      have HO2 := Lib.hid hO2
      have HU2 := Lib.hid hU2
      clear hO2 hU2
      go_wp2_with (refine wpList_append_run (o := ⟨some 18, _, _, _, _, _⟩) rfl (.tmp 12) (.tmp 17) _ rfl _ _ rfl rfl _ _ hr ?_)
      clear hr HO HZ HSr d0 d1 d2 d3 d4 d5 d6
      have HS2 := Lib.hid (HS.out.up HU2.out)
      go_loopw [7] (fun t7 wq => ∃ nx : Nat, t7 = .int .i64 nx ∧ i + 1 ≤ nx ∧ (nx < n ∨ nx = i + 1) ∧ Hid (i + 1 < nx → clM g q ⟨sq, t, nn, s, qq, lo, hi⟩ (X.getD nx mk0) = true) ∧ Hid (Up w2 wq)) (fun t _ => n - (intOf t).toNat)
      case atStart => exact ⟨i + 1, by go_num, by omega, Or.inr (by omega), Lib.hid (fun h => absurd h (Nat.lt_irrefl _)), Lib.hid (Up.refl w2)⟩
      case round =>
        obtain ⟨nx, rfl, h1, h2, HC, HV⟩ := hrel
        have f31 : (0 : Int) ≤ nx := by omega
        by_cases hx : nx + 1 < n
        · obtain ⟨x0, x1, x2, x3, x4, x5, x6⟩ := mrk_prev (HS2.out.up HV.out) hx
          obtain ⟨d0, d1, d2, d3, d4, d5, d6⟩ := mrk_prev (HS2.out.up HV.out) hi'
          rw [hMi.out] at d0 d1 d2 d3 d4 d5 d6
          simp only at d0 d1 d2 d3 d4 d5 d6
          have HXn := Lib.hid (HX.out (nx + 1) hx)
          have HA : Hid (clM g q ⟨sq, t, nn, s, qq, lo, hi⟩ (X.getD (nx + 1) mk0) = true → i + 1 < nx + 1 → clM g q ⟨sq, t, nn, s, qq, lo, hi⟩ (X.getD (nx + 1) mk0) = true) := Lib.hid (fun h _ => h)
          have HPx := Lib.hid (HP.out nx h1 h2 HC.out)
          generalize hMn : X.getD (nx + 1) mk0 = Mn at *
          obtain ⟨sq1, t1, nn1, s1, qq1, lo1, hi1⟩ := Mn
          simp only at x0 x1 x2 x3 x4 x5 x6
          have hMn := Lib.hid hMn
          have K7 := Lib.hid (KC.out ⟨sq, t, nn, s, qq, lo, hi⟩ ⟨sq1, t1, nn1, s1, qq1, lo1, hi1⟩ HXi.out HXn.out)
          simp only at K7
          have HSS : Hid (Up w2 wr ∧ wr.cell? ⟨b, o + i * 7, none⟩ = some (.int .i64 sq) ∧ wr.cell? ⟨b, o + i * 7 + 1, none⟩ = some (.int .i64 t) ∧ wr.cell? ⟨b, o + i * 7 + 2, none⟩ = some (.int .i64 nn) ∧ wr.cell? ⟨b, o + i * 7 + 3, none⟩ = some (.int .i64 s) ∧ wr.cell? ⟨b, o + i * 7 + 4, none⟩ = some (.int .i64 qq) ∧ wr.cell? ⟨b, o + i * 7 + 5, none⟩ = some (.int .i64 lo) ∧ wr.cell? ⟨b, o + i * 7 + 6, none⟩ = some (.int .i64 hi) ∧ wr.cell? ⟨b, o + (nx + 1) * 7, none⟩ = some (.int .i64 sq1) ∧ wr.cell? ⟨b, o + (nx + 1) * 7 + 1, none⟩ = some (.int .i64 t1) ∧ wr.cell? ⟨b, o + (nx + 1) * 7 + 2, none⟩ = some (.int .i64 nn1) ∧ wr.cell? ⟨b, o + (nx + 1) * 7 + 3, none⟩ = some (.int .i64 s1) ∧ wr.cell? ⟨b, o + (nx + 1) * 7 + 4, none⟩ = some (.int .i64 qq1) ∧ wr.cell? ⟨b, o + (nx + 1) * 7 + 5, none⟩ = some (.int .i64 lo1) ∧ wr.cell? ⟨b, o + (nx + 1) * 7 + 6, none⟩ = some (.int .i64 hi1)) := Lib.hid ⟨HV.out, d0, d1, d2, d3, d4, d5, d6, x0, x1, x2, x3, x4, x5, x6⟩
          have f32 : (nx : Int) + 1 < n := by omega
          have f33 : (0 : Int) ≤ (nx : Int) + 1 := by omega
          have f34 : ((nx : Int) + 1).toNat = nx + 1 := by omega
          have f35 : IntKind.i64.wrap ((nx : Int) + 1) = (nx : Int) + 1 := by rw [IntKind.wrap_i64]; omega
          clear d0 d1 d2 d3 d4 d5 d6 x0 x1 x2 x3 x4 x5 x6 HXn
          cases hk : clM g q ⟨sq, t, nn, s, qq, lo, hi⟩ ⟨sq1, t1, nn1, s1, qq1, lo1, hi1⟩ with
          | false =>
            have HR := Lib.hid (HPx.out (fun _ => hk))
            rw [hk] at K7
            clear hk HPx HA HP HC
            go_wp2_with fail
            refine wp_region_held_drew (S := fun w' => Up w2 w' ∧ w'.cell? ⟨b, o + i * 7, none⟩ = some (.int .i64 sq) ∧ w'.cell? ⟨b, o + i * 7 + 1, none⟩ = some (.int .i64 t) ∧ w'.cell? ⟨b, o + i * 7 + 2, none⟩ = some (.int .i64 nn) ∧ w'.cell? ⟨b, o + i * 7 + 3, none⟩ = some (.int .i64 s) ∧ w'.cell? ⟨b, o + i * 7 + 4, none⟩ = some (.int .i64 qq) ∧ w'.cell? ⟨b, o + i * 7 + 5, none⟩ = some (.int .i64 lo) ∧ w'.cell? ⟨b, o + i * 7 + 6, none⟩ = some (.int .i64 hi) ∧ w'.cell? ⟨b, o + (nx + 1) * 7, none⟩ = some (.int .i64 sq1) ∧ w'.cell? ⟨b, o + (nx + 1) * 7 + 1, none⟩ = some (.int .i64 t1) ∧ w'.cell? ⟨b, o + (nx + 1) * 7 + 2, none⟩ = some (.int .i64 nn1) ∧ w'.cell? ⟨b, o + (nx + 1) * 7 + 3, none⟩ = some (.int .i64 s1) ∧ w'.cell? ⟨b, o + (nx + 1) * 7 + 4, none⟩ = some (.int .i64 qq1) ∧ w'.cell? ⟨b, o + (nx + 1) * 7 + 5, none⟩ = some (.int .i64 lo1) ∧ w'.cell? ⟨b, o + (nx + 1) * 7 + 6, none⟩ = some (.int .i64 hi1)) (by kernel_rfl) ?hB321 (fun hHeld => ?_)
            case hB321 => (first | (with_reducible assumption) | (with_reducible exact keepK14 (Lib.hid (Up.refl _).drew) HSS.out) | (with_reducible exact HX3.out))
            refine wpAnyH_take (i := 0) (oi := ⟨_, _, _, _, _, _⟩) (v := ?v322) rfl (by kernel_rfl) (by kernel_rfl) (by kernel_rfl) (fun _ _ _ h => h) (Or.inl ⟨by rfl, ?hy322⟩) (by assumption) ?_
            case hy322 => (intro w hSw; (try dsimp only at hSw); go_simp; (try (with_reducible rfl)))
            (try simp only [Act.put, List.setIfInBounds_toArray, List.set_cons_zero, List.set_cons_succ])
            refine wpAnyH_take (i := 1) (oi := ⟨_, _, _, _, _, _⟩) (v := ?v323) rfl (by kernel_rfl) (by kernel_rfl) (by kernel_rfl) (fun _ _ _ h => h) (Or.inl ⟨by rfl, ?hy323⟩) (by assumption) ?_
            case hy323 => (intro w hSw; (try dsimp only at hSw); go_simp; (try (with_reducible rfl)))
            (try simp only [Act.put, List.setIfInBounds_toArray, List.set_cons_zero, List.set_cons_succ])
            refine wpAnyH_take (i := 2) (oi := ⟨_, _, _, _, _, _⟩) (v := ?v324) rfl (by kernel_rfl) (by kernel_rfl) (by kernel_rfl) (fun _ _ _ h => h) (Or.inl ⟨by rfl, ?hy324⟩) (by assumption) ?_
            case hy324 => (intro w hSw; (try dsimp only at hSw); go_simp; (try (with_reducible rfl)))
            (try simp only [Act.put, List.setIfInBounds_toArray, List.set_cons_zero, List.set_cons_succ])
            refine wpAnyH_take (i := 3) (oi := ⟨_, _, _, _, _, _⟩) (v := ?v325) rfl (by kernel_rfl) (by kernel_rfl) (by kernel_rfl) (fun _ _ _ h => h) (Or.inl ⟨by rfl, ?hy325⟩) (by assumption) ?_
            case hy325 => (intro w hSw; (try dsimp only at hSw); go_simp; (try (with_reducible rfl)))
            (try simp only [Act.put, List.setIfInBounds_toArray, List.set_cons_zero, List.set_cons_succ])
            refine wpAnyH_take (i := 4) (oi := ⟨_, _, _, _, _, _⟩) (v := ?v326) rfl (by kernel_rfl) (by kernel_rfl) (by kernel_rfl) (fun _ _ _ h => h) (Or.inl ⟨by rfl, ?hy326⟩) (by assumption) ?_
            case hy326 => (intro w hSw; (try dsimp only at hSw); go_simp; (try (with_reducible rfl)))
            (try simp only [Act.put, List.setIfInBounds_toArray, List.set_cons_zero, List.set_cons_succ])
            refine wpAnyH_take (i := 5) (oi := ⟨_, _, _, _, _, _⟩) (v := ?v327) rfl (by kernel_rfl) (by kernel_rfl) (by kernel_rfl) (fun _ _ _ h => h) (Or.inl ⟨by rfl, ?hy327⟩) (by assumption) ?_
            case hy327 => (intro w hSw; (try dsimp only at hSw); go_simp; (try (with_reducible rfl)))
            (try simp only [Act.put, List.setIfInBounds_toArray, List.set_cons_zero, List.set_cons_succ])
            refine wpAnyH_take (i := 6) (oi := ⟨_, _, _, _, _, _⟩) (v := ?v328) rfl (by kernel_rfl) (by kernel_rfl) (by kernel_rfl) (fun _ _ _ h => h) (Or.inl ⟨by rfl, ?hy328⟩) (by assumption) ?_
            case hy328 => (intro w hSw; (try dsimp only at hSw); go_simp; (try (with_reducible rfl)))
            (try simp only [Act.put, List.setIfInBounds_toArray, List.set_cons_zero, List.set_cons_succ])
            refine wpAnyH_take (i := 7) (oi := ⟨_, _, _, _, _, _⟩) (v := ?v329) rfl (by kernel_rfl) (by kernel_rfl) (by kernel_rfl) (fun _ _ _ h => h) (Or.inl ⟨by rfl, ?hy329⟩) (by assumption) ?_
            case hy329 => (intro w hSw; (try dsimp only at hSw); go_simp; (try (with_reducible rfl)))
            (try simp only [Act.put, List.setIfInBounds_toArray, List.set_cons_zero, List.set_cons_succ])
            refine wpAnyH_take (i := 8) (oi := ⟨_, _, _, _, _, _⟩) (v := ?v330) rfl (by kernel_rfl) (by kernel_rfl) (by kernel_rfl) (fun _ _ _ h => h) (Or.inl ⟨by rfl, ?hy330⟩) (by assumption) ?_
            case hy330 => (intro w hSw; (try dsimp only at hSw); go_simp; (try (with_reducible rfl)))
            (try simp only [Act.put, List.setIfInBounds_toArray, List.set_cons_zero, List.set_cons_succ])
            refine wpAnyH_take (i := 9) (oi := ⟨_, _, _, _, _, _⟩) (v := ?v331) rfl (by kernel_rfl) (by kernel_rfl) (by kernel_rfl) (fun _ _ _ h => h) (Or.inl ⟨by rfl, ?hy331⟩) (by assumption) ?_
            case hy331 => (intro w hSw; (try dsimp only at hSw); go_simp; (try (with_reducible rfl)))
            (try simp only [Act.put, List.setIfInBounds_toArray, List.set_cons_zero, List.set_cons_succ])
            refine wpAnyH_take (i := 10) (oi := ⟨_, _, _, _, _, _⟩) (v := ?v332) rfl (by kernel_rfl) (by kernel_rfl) (by kernel_rfl) (fun _ _ _ h => h) (Or.inl ⟨by rfl, ?hy332⟩) (by assumption) ?_
            case hy332 => (intro w hSw; (try dsimp only at hSw); go_simp; (try (with_reducible rfl)))
            (try simp only [Act.put, List.setIfInBounds_toArray, List.set_cons_zero, List.set_cons_succ])
            refine wpAnyH_take (i := 11) (oi := ⟨_, _, _, _, _, _⟩) (v := ?v333) rfl (by kernel_rfl) (by kernel_rfl) (by kernel_rfl) (fun _ _ _ h => h) (Or.inl ⟨by rfl, ?hy333⟩) (by assumption) ?_
            case hy333 => (intro w hSw; (try dsimp only at hSw); go_simp; (try (with_reducible rfl)))
            (try simp only [Act.put, List.setIfInBounds_toArray, List.set_cons_zero, List.set_cons_succ])
            refine wpAnyH_take (i := 12) (oi := ⟨_, _, _, _, _, _⟩) (v := ?v334) rfl (by kernel_rfl) (by kernel_rfl) (by kernel_rfl) (fun _ _ _ h => h) (Or.inl ⟨by rfl, ?hy334⟩) (by assumption) ?_
            case hy334 => (intro w hSw; (try dsimp only at hSw); go_simp; (try (with_reducible rfl)))
            (try simp only [Act.put, List.setIfInBounds_toArray, List.set_cons_zero, List.set_cons_succ])
            refine wpAnyH_take (i := 13) (oi := ⟨_, _, _, _, _, _⟩) (v := ?v335) rfl (by kernel_rfl) (by kernel_rfl) (by kernel_rfl) (fun _ _ _ h => h) (Or.inl ⟨by rfl, ?hy335⟩) (by assumption) ?_
            case hy335 => (intro w hSw; (try dsimp only at hSw); go_simp; (try (with_reducible rfl)))
            (try simp only [Act.put, List.setIfInBounds_toArray, List.set_cons_zero, List.set_cons_succ])
            refine wpAnyH_take (i := 14) (oi := ⟨_, _, _, _, _, _⟩) (v := ?v336) rfl (by kernel_rfl) (by kernel_rfl) (by kernel_rfl) (fun _ _ _ h => h) (Or.inl ⟨by rfl, ?hy336⟩) (by assumption) ?_
            case hy336 => (intro w hSw; (try dsimp only at hSw); go_simp; (try (with_reducible rfl)))
            (try simp only [Act.put, List.setIfInBounds_toArray, List.set_cons_zero, List.set_cons_succ])
            refine wpAnyH_take (i := 15) (oi := ⟨_, _, _, _, _, _⟩) (v := ?v337) rfl (by kernel_rfl) (by kernel_rfl) (by kernel_rfl) (fun _ _ _ h => h) (Or.inl ⟨by rfl, ?hy337⟩) (by assumption) ?_
            case hy337 => (intro w hSw; (try dsimp only at hSw); go_simp; (try (with_reducible rfl)))
            (try simp only [Act.put, List.setIfInBounds_toArray, List.set_cons_zero, List.set_cons_succ])
            refine wpAnyH_ready (rs := [16]) (by kernel_rfl) (by simp) ?_
            refine AllReadyH.cons (o := ⟨_, _, _, _, _, _⟩) rfl (fun K hK => ?_) AllReadyH.nil
            go_simp
            (go_at_call 85; (with_reducible refine (K7.out _ (HU2.out.trans hHeld.1)).mono ?_); rintro e w3 ⟨rfl, hu⟩; have HU3 := Lib.hid hu; have HX3 := Lib.hid (keepK14 HU3 hHeld); clear hu)
            (try go_wp2_with fail)
            refine hK.out _ _ ?hB338 (fun hHeld => ?_)
            case hB338 => (first | (with_reducible assumption) | (with_reducible exact keepK14 (Lib.hid (Up.refl _).drew) HSS.out) | (with_reducible exact HX3.out))
            clear hK K
            (try simp only [Act.put, List.setIfInBounds_toArray, List.set_cons_zero, List.set_cons_succ])
            refine wpAnyH_take (i := 17) (oi := ⟨_, _, _, _, _, _⟩) (v := ?v339) rfl (by kernel_rfl) (by kernel_rfl) (by kernel_rfl) (fun _ _ _ h => h) (Or.inl ⟨by rfl, ?hy339⟩) (by assumption) ?_
            case hy339 => (intro w hSw; (try dsimp only at hSw); go_simp; (try (with_reducible rfl)))
            (try simp only [Act.put, List.setIfInBounds_toArray, List.set_cons_zero, List.set_cons_succ])
            refine wpAnyH_done (by kernel_rfl) ?_ _
            have UX := Lib.hid hHeld.1
            (repeat clear ‹Up w2 _ ∧ _›)
            go_wp2_with fail
            go_roundw
            case rel => exact ⟨nx, m + 1, A2, k2, _, rfl, by go_num, by omega, by omega, Lib.hid ⟨HO2.out.1, HO2.out.2.of_up UX.out⟩, HR, Lib.hid (HU2.out.trans UX.out)⟩
            case measure => simp [intOf]; omega
          | true =>
            have HC2 : Hid (i + 1 < nx + 1 → clM g q ⟨sq, t, nn, s, qq, lo, hi⟩ (X.getD (nx + 1) mk0) = true) := Lib.hid (fun _ => by rw [hMn.out]; exact hk)
            rw [hk] at K7
            clear hk HPx HA HP HC
            go_wp2_with fail
            refine wp_region_held_drew (S := fun w' => Up w2 w' ∧ w'.cell? ⟨b, o + i * 7, none⟩ = some (.int .i64 sq) ∧ w'.cell? ⟨b, o + i * 7 + 1, none⟩ = some (.int .i64 t) ∧ w'.cell? ⟨b, o + i * 7 + 2, none⟩ = some (.int .i64 nn) ∧ w'.cell? ⟨b, o + i * 7 + 3, none⟩ = some (.int .i64 s) ∧ w'.cell? ⟨b, o + i * 7 + 4, none⟩ = some (.int .i64 qq) ∧ w'.cell? ⟨b, o + i * 7 + 5, none⟩ = some (.int .i64 lo) ∧ w'.cell? ⟨b, o + i * 7 + 6, none⟩ = some (.int .i64 hi) ∧ w'.cell? ⟨b, o + (nx + 1) * 7, none⟩ = some (.int .i64 sq1) ∧ w'.cell? ⟨b, o + (nx + 1) * 7 + 1, none⟩ = some (.int .i64 t1) ∧ w'.cell? ⟨b, o + (nx + 1) * 7 + 2, none⟩ = some (.int .i64 nn1) ∧ w'.cell? ⟨b, o + (nx + 1) * 7 + 3, none⟩ = some (.int .i64 s1) ∧ w'.cell? ⟨b, o + (nx + 1) * 7 + 4, none⟩ = some (.int .i64 qq1) ∧ w'.cell? ⟨b, o + (nx + 1) * 7 + 5, none⟩ = some (.int .i64 lo1) ∧ w'.cell? ⟨b, o + (nx + 1) * 7 + 6, none⟩ = some (.int .i64 hi1)) (by kernel_rfl) ?hB340 (fun hHeld => ?_)
            case hB340 => (first | (with_reducible assumption) | (with_reducible exact keepK14 (Lib.hid (Up.refl _).drew) HSS.out) | (with_reducible exact HX3.out))
            refine wpAnyH_take (i := 0) (oi := ⟨_, _, _, _, _, _⟩) (v := ?v341) rfl (by kernel_rfl) (by kernel_rfl) (by kernel_rfl) (fun _ _ _ h => h) (Or.inl ⟨by rfl, ?hy341⟩) (by assumption) ?_
            case hy341 => (intro w hSw; (try dsimp only at hSw); go_simp; (try (with_reducible rfl)))
            (try simp only [Act.put, List.setIfInBounds_toArray, List.set_cons_zero, List.set_cons_succ])
            refine wpAnyH_take (i := 1) (oi := ⟨_, _, _, _, _, _⟩) (v := ?v342) rfl (by kernel_rfl) (by kernel_rfl) (by kernel_rfl) (fun _ _ _ h => h) (Or.inl ⟨by rfl, ?hy342⟩) (by assumption) ?_
            case hy342 => (intro w hSw; (try dsimp only at hSw); go_simp; (try (with_reducible rfl)))
            (try simp only [Act.put, List.setIfInBounds_toArray, List.set_cons_zero, List.set_cons_succ])
            refine wpAnyH_take (i := 2) (oi := ⟨_, _, _, _, _, _⟩) (v := ?v343) rfl (by kernel_rfl) (by kernel_rfl) (by kernel_rfl) (fun _ _ _ h => h) (Or.inl ⟨by rfl, ?hy343⟩) (by assumption) ?_
            case hy343 => (intro w hSw; (try dsimp only at hSw); go_simp; (try (with_reducible rfl)))
            (try simp only [Act.put, List.setIfInBounds_toArray, List.set_cons_zero, List.set_cons_succ])
            refine wpAnyH_take (i := 3) (oi := ⟨_, _, _, _, _, _⟩) (v := ?v344) rfl (by kernel_rfl) (by kernel_rfl) (by kernel_rfl) (fun _ _ _ h => h) (Or.inl ⟨by rfl, ?hy344⟩) (by assumption) ?_
            case hy344 => (intro w hSw; (try dsimp only at hSw); go_simp; (try (with_reducible rfl)))
            (try simp only [Act.put, List.setIfInBounds_toArray, List.set_cons_zero, List.set_cons_succ])
            refine wpAnyH_take (i := 4) (oi := ⟨_, _, _, _, _, _⟩) (v := ?v345) rfl (by kernel_rfl) (by kernel_rfl) (by kernel_rfl) (fun _ _ _ h => h) (Or.inl ⟨by rfl, ?hy345⟩) (by assumption) ?_
            case hy345 => (intro w hSw; (try dsimp only at hSw); go_simp; (try (with_reducible rfl)))
            (try simp only [Act.put, List.setIfInBounds_toArray, List.set_cons_zero, List.set_cons_succ])
            refine wpAnyH_take (i := 5) (oi := ⟨_, _, _, _, _, _⟩) (v := ?v346) rfl (by kernel_rfl) (by kernel_rfl) (by kernel_rfl) (fun _ _ _ h => h) (Or.inl ⟨by rfl, ?hy346⟩) (by assumption) ?_
            case hy346 => (intro w hSw; (try dsimp only at hSw); go_simp; (try (with_reducible rfl)))
            (try simp only [Act.put, List.setIfInBounds_toArray, List.set_cons_zero, List.set_cons_succ])
            refine wpAnyH_take (i := 6) (oi := ⟨_, _, _, _, _, _⟩) (v := ?v347) rfl (by kernel_rfl) (by kernel_rfl) (by kernel_rfl) (fun _ _ _ h => h) (Or.inl ⟨by rfl, ?hy347⟩) (by assumption) ?_
            case hy347 => (intro w hSw; (try dsimp only at hSw); go_simp; (try (with_reducible rfl)))
            (try simp only [Act.put, List.setIfInBounds_toArray, List.set_cons_zero, List.set_cons_succ])
            refine wpAnyH_take (i := 7) (oi := ⟨_, _, _, _, _, _⟩) (v := ?v348) rfl (by kernel_rfl) (by kernel_rfl) (by kernel_rfl) (fun _ _ _ h => h) (Or.inl ⟨by rfl, ?hy348⟩) (by assumption) ?_
            case hy348 => (intro w hSw; (try dsimp only at hSw); go_simp; (try (with_reducible rfl)))
            (try simp only [Act.put, List.setIfInBounds_toArray, List.set_cons_zero, List.set_cons_succ])
            refine wpAnyH_take (i := 8) (oi := ⟨_, _, _, _, _, _⟩) (v := ?v349) rfl (by kernel_rfl) (by kernel_rfl) (by kernel_rfl) (fun _ _ _ h => h) (Or.inl ⟨by rfl, ?hy349⟩) (by assumption) ?_
            case hy349 => (intro w hSw; (try dsimp only at hSw); go_simp; (try (with_reducible rfl)))
            (try simp only [Act.put, List.setIfInBounds_toArray, List.set_cons_zero, List.set_cons_succ])
            refine wpAnyH_take (i := 9) (oi := ⟨_, _, _, _, _, _⟩) (v := ?v350) rfl (by kernel_rfl) (by kernel_rfl) (by kernel_rfl) (fun _ _ _ h => h) (Or.inl ⟨by rfl, ?hy350⟩) (by assumption) ?_
            case hy350 => (intro w hSw; (try dsimp only at hSw); go_simp; (try (with_reducible rfl)))
            (try simp only [Act.put, List.setIfInBounds_toArray, List.set_cons_zero, List.set_cons_succ])
            refine wpAnyH_take (i := 10) (oi := ⟨_, _, _, _, _, _⟩) (v := ?v351) rfl (by kernel_rfl) (by kernel_rfl) (by kernel_rfl) (fun _ _ _ h => h) (Or.inl ⟨by rfl, ?hy351⟩) (by assumption) ?_
            case hy351 => (intro w hSw; (try dsimp only at hSw); go_simp; (try (with_reducible rfl)))
            (try simp only [Act.put, List.setIfInBounds_toArray, List.set_cons_zero, List.set_cons_succ])
            refine wpAnyH_take (i := 11) (oi := ⟨_, _, _, _, _, _⟩) (v := ?v352) rfl (by kernel_rfl) (by kernel_rfl) (by kernel_rfl) (fun _ _ _ h => h) (Or.inl ⟨by rfl, ?hy352⟩) (by assumption) ?_
            case hy352 => (intro w hSw; (try dsimp only at hSw); go_simp; (try (with_reducible rfl)))
            (try simp only [Act.put, List.setIfInBounds_toArray, List.set_cons_zero, List.set_cons_succ])
            refine wpAnyH_take (i := 12) (oi := ⟨_, _, _, _, _, _⟩) (v := ?v353) rfl (by kernel_rfl) (by kernel_rfl) (by kernel_rfl) (fun _ _ _ h => h) (Or.inl ⟨by rfl, ?hy353⟩) (by assumption) ?_
            case hy353 => (intro w hSw; (try dsimp only at hSw); go_simp; (try (with_reducible rfl)))
            (try simp only [Act.put, List.setIfInBounds_toArray, List.set_cons_zero, List.set_cons_succ])
            refine wpAnyH_take (i := 13) (oi := ⟨_, _, _, _, _, _⟩) (v := ?v354) rfl (by kernel_rfl) (by kernel_rfl) (by kernel_rfl) (fun _ _ _ h => h) (Or.inl ⟨by rfl, ?hy354⟩) (by assumption) ?_
            case hy354 => (intro w hSw; (try dsimp only at hSw); go_simp; (try (with_reducible rfl)))
            (try simp only [Act.put, List.setIfInBounds_toArray, List.set_cons_zero, List.set_cons_succ])
            refine wpAnyH_take (i := 14) (oi := ⟨_, _, _, _, _, _⟩) (v := ?v355) rfl (by kernel_rfl) (by kernel_rfl) (by kernel_rfl) (fun _ _ _ h => h) (Or.inl ⟨by rfl, ?hy355⟩) (by assumption) ?_
            case hy355 => (intro w hSw; (try dsimp only at hSw); go_simp; (try (with_reducible rfl)))
            (try simp only [Act.put, List.setIfInBounds_toArray, List.set_cons_zero, List.set_cons_succ])
            refine wpAnyH_take (i := 15) (oi := ⟨_, _, _, _, _, _⟩) (v := ?v356) rfl (by kernel_rfl) (by kernel_rfl) (by kernel_rfl) (fun _ _ _ h => h) (Or.inl ⟨by rfl, ?hy356⟩) (by assumption) ?_
            case hy356 => (intro w hSw; (try dsimp only at hSw); go_simp; (try (with_reducible rfl)))
            (try simp only [Act.put, List.setIfInBounds_toArray, List.set_cons_zero, List.set_cons_succ])
            refine wpAnyH_ready (rs := [16]) (by kernel_rfl) (by simp) ?_
            refine AllReadyH.cons (o := ⟨_, _, _, _, _, _⟩) rfl (fun K hK => ?_) AllReadyH.nil
            go_simp
            (go_at_call 85; (with_reducible refine (K7.out _ (HU2.out.trans hHeld.1)).mono ?_); rintro e w3 ⟨rfl, hu⟩; have HU3 := Lib.hid hu; have HX3 := Lib.hid (keepK14 HU3 hHeld); clear hu)
            (try go_wp2_with fail)
            refine hK.out _ _ ?hB357 (fun hHeld => ?_)
            case hB357 => (first | (with_reducible assumption) | (with_reducible exact keepK14 (Lib.hid (Up.refl _).drew) HSS.out) | (with_reducible exact HX3.out))
            clear hK K
            (try simp only [Act.put, List.setIfInBounds_toArray, List.set_cons_zero, List.set_cons_succ])
            refine wpAnyH_take (i := 17) (oi := ⟨_, _, _, _, _, _⟩) (v := ?v358) rfl (by kernel_rfl) (by kernel_rfl) (by kernel_rfl) (fun _ _ _ h => h) (Or.inl ⟨by rfl, ?hy358⟩) (by assumption) ?_
            case hy358 => (intro w hSw; (try dsimp only at hSw); go_simp; (try (with_reducible rfl)))
            (try simp only [Act.put, List.setIfInBounds_toArray, List.set_cons_zero, List.set_cons_succ])
            refine wpAnyH_done (by kernel_rfl) ?_ _
            have UX := Lib.hid hHeld.1
            (repeat clear ‹Up w2 _ ∧ _›)
            go_wp2_with fail
            go_roundw
            case rel => exact ⟨nx + 1, by go_num, by omega, Or.inl (by omega), HC2, UX⟩
            case measure => simp [intOf]; omega
        · have HR := Lib.hid (HP.out nx h1 h2 HC.out (fun h => absurd h hx))
          have t1 : decide ((nx : Int) + 1 < n) = false := decide_eq_false (by omega)
          have f35 : IntKind.i64.wrap ((nx : Int) + 1) = (nx : Int) + 1 := by rw [IntKind.wrap_i64]; omega
          have HSS : Hid (Up w2 wr ∧ True) := Lib.hid ⟨HV.out, trivial⟩
          clear HP HC
          go_wp2_with fail
          refine wp_region_held_drew (S := fun w' => Up w2 w' ∧ True) (by kernel_rfl) ?hB359 (fun hHeld => ?_)
          case hB359 => (first | (with_reducible assumption) | exact ⟨HSS.out.1.drew, trivial⟩)
          refine wpAnyH_take (i := 0) (oi := ⟨_, _, _, _, _, _⟩) (v := ?v360) rfl (by kernel_rfl) (by kernel_rfl) (by kernel_rfl) (fun _ _ _ h => h) (Or.inl ⟨by rfl, ?hy360⟩) (by assumption) ?_
          case hy360 => (intro w hSw; (try dsimp only at hSw); go_simp; (try (with_reducible rfl)))
          (try simp only [Act.put, List.setIfInBounds_toArray, List.set_cons_zero, List.set_cons_succ])
          refine wpAnyH_take (i := 1) (oi := ⟨_, _, _, _, _, _⟩) (v := ?v361) rfl (by kernel_rfl) (by kernel_rfl) (by kernel_rfl) (fun _ _ _ h => h) (Or.inl ⟨by rfl, ?hy361⟩) (by assumption) ?_
          case hy361 => (intro w hSw; (try dsimp only at hSw); go_simp; (try (with_reducible rfl)))
          (try simp only [Act.put, List.setIfInBounds_toArray, List.set_cons_zero, List.set_cons_succ])
          refine wpAnyH_take (i := 2) (oi := ⟨_, _, _, _, _, _⟩) (v := ?v362) rfl (by kernel_rfl) (by kernel_rfl) (by kernel_rfl) (fun _ _ _ h => h) (Or.inl ⟨by rfl, ?hy362⟩) (by assumption) ?_
          case hy362 => (intro w hSw; (try dsimp only at hSw); go_simp; (try (with_reducible rfl)))
          (try simp only [Act.put, List.setIfInBounds_toArray, List.set_cons_zero, List.set_cons_succ])
          refine wpAnyH_take (i := 3) (oi := ⟨_, _, _, _, _, _⟩) (v := ?v363) rfl (by kernel_rfl) (by kernel_rfl) (by kernel_rfl) (fun _ _ _ h => h) (Or.inl ⟨by rfl, ?hy363⟩) (by assumption) ?_
          case hy363 => (intro w hSw; (try dsimp only at hSw); go_simp; (try (with_reducible rfl)))
          (try simp only [Act.put, List.setIfInBounds_toArray, List.set_cons_zero, List.set_cons_succ])
          refine wpAnyH_take (i := 4) (oi := ⟨_, _, _, _, _, _⟩) (v := ?v364) rfl (by kernel_rfl) (by kernel_rfl) (by kernel_rfl) (fun _ _ _ h => h) (Or.inl ⟨by rfl, ?hy364⟩) (by assumption) ?_
          case hy364 => (intro w hSw; (try dsimp only at hSw); go_simp; (try (with_reducible rfl)))
          (try simp only [Act.put, List.setIfInBounds_toArray, List.set_cons_zero, List.set_cons_succ])
          refine wpAnyH_take (i := 5) (oi := ⟨_, _, _, _, _, _⟩) (v := ?v365) rfl (by kernel_rfl) (by kernel_rfl) (by kernel_rfl) (fun _ _ _ h => h) (Or.inl ⟨by rfl, ?hy365⟩) (by assumption) ?_
          case hy365 => (intro w hSw; (try dsimp only at hSw); go_simp; (try (with_reducible rfl)))
          (try simp only [Act.put, List.setIfInBounds_toArray, List.set_cons_zero, List.set_cons_succ])
          refine wpAnyH_take (i := 6) (oi := ⟨_, _, _, _, _, _⟩) (v := undef) rfl (by kernel_rfl) (by kernel_rfl) (by kernel_rfl) (fun _ _ _ h => h) (Or.inr ⟨by rfl, rfl⟩) (by assumption) ?_
          (try simp only [Act.put, List.setIfInBounds_toArray, List.set_cons_zero, List.set_cons_succ])
          refine wpAnyH_take (i := 7) (oi := ⟨_, _, _, _, _, _⟩) (v := undef) rfl (by kernel_rfl) (by kernel_rfl) (by kernel_rfl) (fun _ _ _ h => h) (Or.inr ⟨by rfl, rfl⟩) (by assumption) ?_
          (try simp only [Act.put, List.setIfInBounds_toArray, List.set_cons_zero, List.set_cons_succ])
          refine wpAnyH_take (i := 8) (oi := ⟨_, _, _, _, _, _⟩) (v := undef) rfl (by kernel_rfl) (by kernel_rfl) (by kernel_rfl) (fun _ _ _ h => h) (Or.inr ⟨by rfl, rfl⟩) (by assumption) ?_
          (try simp only [Act.put, List.setIfInBounds_toArray, List.set_cons_zero, List.set_cons_succ])
          refine wpAnyH_take (i := 9) (oi := ⟨_, _, _, _, _, _⟩) (v := undef) rfl (by kernel_rfl) (by kernel_rfl) (by kernel_rfl) (fun _ _ _ h => h) (Or.inr ⟨by rfl, rfl⟩) (by assumption) ?_
          (try simp only [Act.put, List.setIfInBounds_toArray, List.set_cons_zero, List.set_cons_succ])
          refine wpAnyH_take (i := 10) (oi := ⟨_, _, _, _, _, _⟩) (v := undef) rfl (by kernel_rfl) (by kernel_rfl) (by kernel_rfl) (fun _ _ _ h => h) (Or.inr ⟨by rfl, rfl⟩) (by assumption) ?_
          (try simp only [Act.put, List.setIfInBounds_toArray, List.set_cons_zero, List.set_cons_succ])
          refine wpAnyH_take (i := 11) (oi := ⟨_, _, _, _, _, _⟩) (v := undef) rfl (by kernel_rfl) (by kernel_rfl) (by kernel_rfl) (fun _ _ _ h => h) (Or.inr ⟨by rfl, rfl⟩) (by assumption) ?_
          (try simp only [Act.put, List.setIfInBounds_toArray, List.set_cons_zero, List.set_cons_succ])
          refine wpAnyH_take (i := 12) (oi := ⟨_, _, _, _, _, _⟩) (v := undef) rfl (by kernel_rfl) (by kernel_rfl) (by kernel_rfl) (fun _ _ _ h => h) (Or.inr ⟨by rfl, rfl⟩) (by assumption) ?_
          (try simp only [Act.put, List.setIfInBounds_toArray, List.set_cons_zero, List.set_cons_succ])
          refine wpAnyH_take (i := 13) (oi := ⟨_, _, _, _, _, _⟩) (v := undef) rfl (by kernel_rfl) (by kernel_rfl) (by kernel_rfl) (fun _ _ _ h => h) (Or.inr ⟨by rfl, rfl⟩) (by assumption) ?_
          (try simp only [Act.put, List.setIfInBounds_toArray, List.set_cons_zero, List.set_cons_succ])
          refine wpAnyH_take (i := 14) (oi := ⟨_, _, _, _, _, _⟩) (v := undef) rfl (by kernel_rfl) (by kernel_rfl) (by kernel_rfl) (fun _ _ _ h => h) (Or.inr ⟨by rfl, rfl⟩) (by assumption) ?_
          (try simp only [Act.put, List.setIfInBounds_toArray, List.set_cons_zero, List.set_cons_succ])
          refine wpAnyH_take (i := 15) (oi := ⟨_, _, _, _, _, _⟩) (v := undef) rfl (by kernel_rfl) (by kernel_rfl) (by kernel_rfl) (fun _ _ _ h => h) (Or.inr ⟨by rfl, rfl⟩) (by assumption) ?_
          (try simp only [Act.put, List.setIfInBounds_toArray, List.set_cons_zero, List.set_cons_succ])
          refine wpAnyH_take (i := 16) (oi := ⟨_, _, _, _, _, _⟩) (v := undef) rfl (by kernel_rfl) (by kernel_rfl) (by kernel_rfl) (fun _ _ _ h => h) (Or.inr ⟨by rfl, rfl⟩) (by assumption) ?_
          (try simp only [Act.put, List.setIfInBounds_toArray, List.set_cons_zero, List.set_cons_succ])
          refine wpAnyH_take (i := 17) (oi := ⟨_, _, _, _, _, _⟩) (v := ?v366) rfl (by kernel_rfl) (by kernel_rfl) (by kernel_rfl) (fun _ _ _ h => h) (Or.inl ⟨by rfl, ?hy366⟩) (by assumption) ?_
          case hy366 => (intro w hSw; (try dsimp only at hSw); go_simp; (try (with_reducible rfl)))
          (try simp only [Act.put, List.setIfInBounds_toArray, List.set_cons_zero, List.set_cons_succ])
          refine wpAnyH_done (by kernel_rfl) ?_ _
          have UX := Lib.hid hHeld.1
          (repeat clear ‹Up w2 _ ∧ _›)
          go_wp2_with fail
          go_roundw
          case rel => exact ⟨nx, m + 1, A2, k2, _, rfl, by go_num, by omega, by omega, Lib.hid ⟨HO2.out.1, HO2.out.2.of_up UX.out⟩, HR, Lib.hid (HU2.out.trans UX.out)⟩
          case measure => simp [intOf]; omega
    · obtain rfl : i = n := by omega
      go_wp2_with fail
      go_ret
      refine ⟨B, m, kb, rfl, hmi, (OG.sg HO.out).1, OG.nw HO.out, HW.out, ?_⟩
      have h := (OG.sg HO.out).2
      have e := HZ.out
      rw [Nat.sub_self, show X.drop i = [] from List.drop_eq_nil_of_le (by rw [HL.out]; exact Nat.le_refl _), prL_nil, List.append_nil] at e
      rw [← e]
      exact h
end Go.Proofs.Ytchikndofpkjmaa

namespace Go.Proofs.Ytchikndofpkjmaa
open Go.RowKit
set_option linter.unusedVariables false

def lnS : Value → Nat
  | .slice _ n _ => n
  | _ => 0
end Go.Proofs.Ytchikndofpkjmaa

namespace Go.Proofs.Ytchikndofpkjmaa
open Go.RowKit
set_option linter.unusedVariables false

theorem stM_may {g v q c now seq : Int} {X : List Mrk} (h : stM g v q c now seq X = true) : mayC v q c now = true := (mayM_true (stM_true h).1).2
end Go.Proofs.Ytchikndofpkjmaa
