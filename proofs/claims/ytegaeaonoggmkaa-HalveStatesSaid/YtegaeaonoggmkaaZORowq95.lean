/- Clone, plus and older of package halve. -/
import Derived.Test.YtegaeaonoggmkaaRows
import Derived.Test.YtegaeaonoggmkaaZOBaseq91
namespace Go.Proofs.Ytegaeaonoggmkaa
open Go.RowKit
set_option linter.unusedVariables false

/-- A row of int64 that is returned. -/
def RwN (n : Nat) (Z : List Int) (w : World) (e : Ending) (w' : World) : Prop := ∃ (A' : Option Addr) (k' : Nat), e = .returned (.slice A' n k') ∧ (n ≤ k' ∧ Nw w A') ∧ Sn w' A' n Z ∧ Up w w'
theorem RwN.mk {n k : Nat} {Z : List Int} {A : Option Addr} {w w' : World} {e : Ending} (h : e = .returned (.slice A n k)) (hN : n ≤ k ∧ Nw w A) (hS : Sn w' A n Z) (hu : Up w w') : RwN n Z w e w' := ⟨A, k, h, hN, hS, hu⟩
/-- A row and a test: the row counts where the test is true. -/
def PlN (r : Bool) (n : Nat) (Z : List Int) (w : World) (e : Ending) (w' : World) : Prop := ∃ (A' : Option Addr) (n' k' : Nat), e = .returned (.tuple #[.slice A' n' k', .bool r]) ∧ (r = true → n' = n ∧ (n' ≤ k' ∧ Nw w A') ∧ Sn w' A' n Z) ∧ Up w w'
theorem PlN.yes {n k : Nat} {Z : List Int} {A : Option Addr} {w w' : World} {e : Ending} (h : e = .returned (.tuple #[.slice A n k, .bool true])) (hN : n ≤ k ∧ Nw w A) (hS : Sn w' A n Z) (hu : Up w w') : PlN true n Z w e w' := ⟨A, n, k, h, fun _ => ⟨rfl, hN, hS⟩, hu⟩
theorem PlN.no {n n' k : Nat} {Z : List Int} {A : Option Addr} {w w' : World} {e : Ending} (h : e = .returned (.tuple #[.slice A n' k, .bool false])) (hu : Up w w') : PlN false n Z w e w' := ⟨A, n', k, h, fun q => (by cases q), hu⟩
theorem OwnN.nw {w0 w : World} {A : Option Addr} {n c : Nat} {L : List Int} (h : OwnN w0 w (.slice A n c) n L) : Nw w0 A := by
  intro b o e
  rcases h.2 with ⟨h1, _⟩ | ⟨g, cap, cur, h1, h2, _⟩
  · injection h1 with h1; rw [h1] at e; cases e
  · injection h1 with h1; rw [e] at h1; injection h1 with h1; injection h1 with h1; omega
theorem ownN_empty {w0 w : World} {g : Nat} (hg : g = w.heap.size) (h : w0.heap.size ≤ w.heap.size) : OwnN w0 (w.alloc (.cells #[] 2)) (.slice (some ⟨g, 0, none⟩) 0 0) 0 [] := by
  subst hg
  exact ⟨rfl, Or.inr ⟨w.heap.size, 0, #[], rfl, h, heap_alloc_new w _, Nat.le_refl _, by simp [maxLen], rfl, rfl⟩⟩
/-- A row after the first sums of another one were added. -/
def plH (S V : List Int) : List Int := byL S.length (fun e => if e < V.length then S.getD e 0 + V.getD e 0 else S.getD e 0)
theorem plH_an {S : List Int} {v : Int} : plH S [v] = anH v S := by
  unfold plH anH
  refine byL_ext (fun e he => ?_)
  by_cases h : e = 0
  · subst h; rw [if_pos (by simp), if_pos rfl]; rfl
  · rw [if_neg (by simp; omega), if_neg h]
theorem append0N_run (ty : TypeId) (w0 w : World) (g : Nat) (hu : Up w0 w) (hO : OwnN w0 w (.slice (some ⟨g, 0, none⟩) 0 0) 0 []) (a : Addr) (c : Nat) :
    ∃ A' k' w', (Builtin.append_ #[22, 22] ty #[.slice (some ⟨g, 0, none⟩) 0 0, .slice (some a) 0 c]).run Try.prog w = .ok (.slice A' 0 k') w' ∧ Nw w0 A' ∧ Up w0 w' := by
  obtain ⟨i, hi, hz, hs, hb⟩ := info_parts int64_info
  have ht := Try.underlying22
  have hOw := hO.nw
  rcases hO.2 with ⟨h1, _⟩ | ⟨g', cap, cur, h1, hbg, hg, hnc, hcm, hcs, htake⟩
  · cases h1
  injection h1 with h1 h2 h3
  injection h1 with h1
  injection h1 with h1
  subst h1 h3
  have hr := run_append_room (P := Try.prog) w 22 ty 2 i ht hi g 0 0 cur hg a 0 c [] (by simp) (by simp) (by simp) (by omega) (by simp)
  obtain ⟨h1, h2⟩ := Cp.set w g cur (cur.toList.take (0 * i.size) ++ [] ++ cur.toList.drop (0 * i.size + ([] : List Value).length)).toArray _ hg
  exact ⟨_, _, _, hr, fun b o e => by injection e with e; injection e with e; omega, h1.up w0 hu hbg⟩
set_option maxHeartbeats 4000000 in
set_option maxRecDepth 100000 in
theorem clone16_up (n k : Nat) (A : Option Addr) (L : List Int) (hn : n ≤ 100000) (w : World) (hS : Sn w A n L) :
    Calls Try.prog 48 #[.slice A n k] w fun e w' => RwN n L w e w' := by
  rcases Nat.eq_zero_or_pos n with h0 | h0
  · subst h0
    have e : L = [] := List.eq_nil_of_length_eq_zero hS.1
    subst e
    cases A with
    | none =>
      have hq := fun W => Lib.run_eql_slice_nil (P := Try.prog) W 22 2 none 0 k 0 0 Try.underlying22
      go_enter Try.func48, Try.ntmps48
      go_wp2_with fail
      go_ret
      exact RwN.mk rfl ⟨Nat.le_refl _, fun _ _ q => (by cases q)⟩ Sn.none_ (Up.refl _)
    | some a =>
      have hO : OwnN w (w.alloc (.cells #[] 2)) (.slice (some ⟨w.heap.size, 0, none⟩) 0 0) 0 [] := ownN_empty rfl (Nat.le_refl _)
      obtain ⟨A', k', w', hr, h1, h2⟩ := append0N_run 22 w (w.alloc (.cells #[] 2)) w.heap.size ((Up.refl w).alloc _ _) hO a k
      have hq := fun W => Lib.run_eql_slice_nil (P := Try.prog) W 22 2 (some a) 0 k 0 0 Try.underlying22
      clear hS hO
      go_enter Try.func48, Try.ntmps48
      go_wp2_with (refine wpList_append_run (o := ⟨some 7, _, _, _, _, _⟩) rfl (.tmp 5) (.tmp 6) _ rfl _ _ rfl rfl _ _ hr ?_)
      go_ret
      exact RwN.mk rfl ⟨Nat.zero_le _, h1⟩ ⟨rfl, fun h => absurd h (by omega)⟩ h2
  · obtain ⟨b0, o0, rfl, _⟩ := hS.2 h0
    have hO : OwnN w (w.alloc (.cells #[] 2)) (.slice (some ⟨w.heap.size, 0, none⟩) 0 0) 0 [] := ownN_empty rfl (Nat.le_refl _)
    obtain ⟨v', w', hr, h1, h2⟩ := appendN_run 22 w (w.alloc (.cells #[] 2)) _ 0 [] hO ((Up.refl w).alloc _ _) (some ⟨b0, o0, none⟩) n k L (hS.up ((Up.refl w).alloc _ _)) h0 (by omega)
    simp only [Nat.zero_add, List.nil_append] at hr h1
    obtain ⟨A', k', rfl, h3, h4⟩ := h1.sn
    have hq := fun W => Lib.run_eql_slice_nil (P := Try.prog) W 22 2 (some ⟨b0, o0, none⟩) n k 0 0 Try.underlying22
    have H1 := Lib.hid (show n ≤ k' ∧ Nw w A' from ⟨h3, h1.nw⟩)
    have H2 := Lib.hid h2
    have H4 := Lib.hid h4
    clear hS hO h1 h2 h3 h4
    go_enter Try.func48, Try.ntmps48
    go_wp2_with (refine wpList_append_run (o := ⟨some 7, _, _, _, _, _⟩) rfl (.tmp 5) (.tmp 6) _ rfl _ _ rfl rfl _ _ hr ?_)
    go_ret
    exact RwN.mk rfl H1.out H4.out H2.out
set_option maxHeartbeats 4000000 in
set_option maxRecDepth 100000 in
theorem plus16_up (n k m j : Nat) (A B : Option Addr) (S V : List Int) (hn : n ≤ 100000) (hmn : m ≤ n) (hIS : ∀ x ∈ S, 0 ≤ x ∧ x ≤ 1099511627776) (hIV : ∀ x ∈ V, 0 ≤ x ∧ x ≤ 1099511627776) (r : Bool) (hr : r = (List.range m).all (fun e => decide (S.getD e 0 + V.getD e 0 ≤ 1099511627776))) (w : World) (hS : Sn w A n S) (hV : Sn w B m V) :
    Calls Try.prog 36 #[.slice A n k, .slice B m j] w fun e w' => PlN r n (plH S V) w e w' := by
  have KC := Lib.hid (fun W (h : Sn W A n S) => clone16_up n k A S hn W h)
  unfold RwN at KC
  have HS := Lib.hid hS
  have HV := Lib.hid hV
  have HL := Lib.hid hS.1
  have HM := Lib.hid hV.1
  have HB : Hid (∀ e, e < m → decide (S.getD e 0 + V.getD e 0 ≤ 1099511627776) = false → r = false) := Lib.hid (fun e he h => by
    rw [hr, List.all_eq_false]
    exact ⟨e, List.mem_range.2 he, by rw [h]; decide⟩)
  have HT : Hid ((∀ e, e < m → decide (S.getD e 0 + V.getD e 0 ≤ 1099511627776) = true) → r = true) := Lib.hid (fun h => by
    rw [hr, List.all_eq_true]
    exact fun e he => h e (List.mem_range.1 he))
  have HIS := Lib.hid hIS
  have HIV := Lib.hid hIV
  clear hS hV hr hIS hIV
  go_enter Try.func36, Try.ntmps36
  go_wp2_with (go_at_call 48; (with_reducible refine (KC.out _ HS.out).mono ?_); rintro e w1 ⟨A1, k1, rfl, hN, hR, hu⟩; have HR := Lib.hid hR; have HN := Lib.hid hN; have U1 := Lib.hid hu; clear hN hR hu)
  go_loopw [13] (fun t wr => ∃ (i : Nat) (M : List Int), t = .int .i64 i ∧ i ≤ m ∧ Hid (∀ e, e < i → decide (S.getD e 0 + V.getD e 0 ≤ 1099511627776) = true) ∧ Hid (∀ e, e < n → M.getD e 0 = if e < i then S.getD e 0 + V.getD e 0 else S.getD e 0) ∧ Hid (Sn wr A1 n M) ∧ Hid (Up w wr)) (fun t _ => m - (intOf t).toNat)
  case atStart => exact ⟨0, S, rfl, Nat.zero_le _, Lib.hid (fun e he => absurd he (Nat.not_lt_zero _)), Lib.hid (fun e _ => by rw [if_neg (Nat.not_lt_zero _)]), HR, U1⟩
  case round =>
    obtain ⟨i, M, rfl, hin, HG, HE, HR2, HW⟩ := hrel
    by_cases hi : i < m
    case neg =>
      obtain rfl : i = m := by omega
      have f1 : decide ((i : Int) < i) = false := decide_eq_false (by omega)
      obtain rfl : r = true := HT.out HG.out
      have HZ : Hid (Sn wr A1 n (plH S V)) := Lib.hid (by
        have e : M = plH S V := by
          unfold plH
          rw [HL.out, HM.out]
          exact filled HR2.out.1 HE.out
        exact e ▸ HR2.out)
      clear HB HT HG HE KC
      go_wp2_with fail
      refine bodyPost_ret (v := .tuple #[.slice A1 n k1, .bool true]) (by simp [results, Try.results36, go_sem]) rfl (PlN.yes rfl HN.out HZ.out HW.out)
    obtain ⟨bv, ov, rfl, x0⟩ := (HV.out.up HW.out).one hi
    have hin2 : i < n := by omega
    have E0 := HE.out i hin2
    rw [if_neg (Nat.lt_irrefl _)] at E0
    obtain ⟨b, o, rfl, y0⟩ := HR2.out.one hin2
    rw [E0] at y0
    have hz := fun q => HW.out.ownGe (HN.out.2 b o rfl) q
    have hs : 0 ≤ S.getD i 0 ∧ S.getD i 0 ≤ 1099511627776 := HIS.out _ (by have := HL.out; simp [List.getD, show i < S.length by omega])
    have hv : 0 ≤ V.getD i 0 ∧ V.getD i 0 ≤ 1099511627776 := HIV.out _ (by have := HM.out; simp [List.getD, show i < V.length by omega])
    have HX : Hid (decide (S.getD i 0 + V.getD i 0 ≤ 1099511627776) = false → r = false) := Lib.hid (HB.out i hi)
    have kw : IntKind.i64.wrap (S.getD i 0 + V.getD i 0) = S.getD i 0 + V.getD i 0 := IntWalk.i64_in _ (by omega)
    have HA : Hid (decide (S.getD i 0 + V.getD i 0 ≤ 1099511627776) = true → ∀ e, e < i + 1 → decide (S.getD e 0 + V.getD e 0 ≤ 1099511627776) = true) := Lib.hid (fun h e he => by
      rcases Nat.lt_or_ge e i with y | y
      · exact HG.out e y
      · obtain rfl : e = i := by omega
        exact h)
    have HE2 : Hid (∀ e, e < n → (M.set i (S.getD i 0 + V.getD i 0)).getD e 0 = if e < i + 1 then S.getD e 0 + V.getD e 0 else S.getD e 0) := Lib.hid (fun e he => by
      rw [getD_put M i e _ (by rw [HR2.out.1]; exact hin2)]
      by_cases h1 : i = e
      · subst h1; rw [if_pos rfl, if_pos (by omega)]
      · rw [if_neg h1, HE.out e he]
        by_cases h2 : e < i
        · rw [if_pos h2, if_pos (by omega)]
        · rw [if_neg h2, if_neg (by omega)])
    have KU := Lib.hid (isTotal16_any (S.getD i 0 + V.getD i 0))
    rw [show decide (0 ≤ S.getD i 0 + V.getD i 0 ∧ S.getD i 0 + V.getD i 0 ≤ 1099511627776) = decide (S.getD i 0 + V.getD i 0 ≤ 1099511627776) from decide_eq_decide.2 ⟨fun h => h.2, fun h => ⟨by omega, h⟩⟩] at KU
    have HR3 : Hid (Sn (wr.setCell ⟨b, o + i, none⟩ (.int .i64 (S.getD i 0 + V.getD i 0))) (some ⟨b, o, none⟩) n (M.set i (S.getD i 0 + V.getD i 0))) := Lib.hid (HR2.out.put hin2)
    have HW2 : Hid (Up w (wr.setCell ⟨b, o + i, none⟩ (.int .i64 (S.getD i 0 + V.getD i 0)))) := Lib.hid (HW.out.setCell (HN.out.2 b o rfl) _)
    have g2 : (i : Int) < m := by omega
    have g3 : (0 : Int) ≤ i := by omega
    have g4 : (i : Int) < n := by omega
    clear HB HT HG HE hs hv E0
    generalize decide (S.getD i 0 + V.getD i 0 ≤ 1099511627776) = q at *
    obtain ⟨Z, hZ⟩ : ∃ z, z = S.getD i 0 + V.getD i 0 := ⟨_, rfl⟩
    obtain ⟨sx, hsx⟩ : ∃ z, z = S.getD i 0 := ⟨_, rfl⟩
    obtain ⟨vx, hvx⟩ : ∃ z, z = V.getD i 0 := ⟨_, rfl⟩
    replace kw : IntKind.i64.wrap (sx + vx) = Z := by rw [hsx, hvx, hZ]; exact kw
    rw [← hZ] at HE2 KU HR3 HW2
    rw [← hsx] at y0
    rw [← hvx] at x0
    clear hZ hsx hvx
    cases q
    · obtain rfl : r = false := HX.out rfl
      go_wp2_with (go_at_call 45; (with_reducible refine (KU.out _).mono ?_); rintro e w' ⟨rfl, rfl⟩)
      refine bodyPost_ret (v := .tuple #[.slice none 0 0, .bool false]) (by simp [results, Try.results36, go_sem]) rfl (PlN.no rfl HW2.out)
    · go_wp2_with (go_at_call 45; (with_reducible refine (KU.out _).mono ?_); rintro e w' ⟨rfl, rfl⟩)
      go_roundw
      case rel => exact ⟨i + 1, M.set i Z, by go_num, by omega, Lib.hid (HA.out (by trivial)), HE2, HR3, HW2⟩
      case measure => simp [intOf]; omega
set_option maxHeartbeats 4000000 in
set_option maxRecDepth 100000 in
theorem older16_up (n k d : Nat) (A : Option Addr) (S : List Int) (hn1 : 1 ≤ n) (hn : n ≤ 100000) (hd : d ≤ 16777216) (w : World) (hS : Sn w A n S) :
    Calls Try.prog 34 #[.slice A n k, .int .i64 d] w fun e w' => RwN n (avH d S) w e w' := by
  have KC := Lib.hid (fun W (h : Sn W A n S) => clone16_up n k A S hn W h)
  unfold RwN at KC
  rw [← avH_min d S, hS.1]
  obtain ⟨m, hm⟩ : ∃ z, z = min d n := ⟨_, rfl⟩
  rw [← hm]
  have hmin : ∀ (ts : Array TypeId) (ty : TypeId) (W : World), (Builtin.min_ ts ty #[.int .i64 d, .int .i64 n]).run Try.prog W = .ok (.int .i64 m) W := fun ts ty W => by
    rw [run_min_int2, hm]
    congr 2
    by_cases g : (n : Int) < d
    · rw [if_pos g]; omega
    · rw [if_neg g]; omega
  have hmn : m ≤ n := by omega
  have HS := Lib.hid hS
  clear hS hm
  go_enter Try.func34, Try.ntmps34
  go_upto_region 2 with (go_at_call 48; (with_reducible refine (KC.out _ HS.out).mono ?_); rintro e w1 ⟨A1, k1, rfl, hN, hR, hu⟩; have HR := Lib.hid hR; have HN := Lib.hid hN; have U1 := Lib.hid hu; clear hN hR hu)
  obtain ⟨b, o, rfl, y0⟩ := HR.out.one (show 0 < n by omega)
  have hf := fun q => U1.out.ownGe (HN.out.2 b o rfl) q
  have hk1 : n ≤ k1 := HN.out.1
  have hb := HN.out.2 b o rfl
  obtain ⟨w2, w3, hcp0, hcl, hS3, hU3⟩ := moveD w1 b o n k1 m k1 S HR.out hmn hf
  have HS3 := Lib.hid hS3
  have HU3 := Lib.hid (hU3 w U1.out hb)
  have HK := Lib.hid (show n ≤ k1 ∧ Nw w (some ⟨b, o, none⟩) from HN.out)
  clear hS3 hU3 y0 hf
  by_cases hkm : k1 = m
  · obtain rfl : m = n := by omega
    subst hkm
    have hcp := fun ty dp kd => hcp0 ty dp kd (fun h => absurd h (Nat.lt_irrefl _))
    simp only [Nat.sub_self] at hcp
    clear hcp0
    go_wp2_with fail
    refine bodyPost_ret (v := .slice (some ⟨b, o, none⟩) k1 k1) (by simp [results, Try.results34, go_sem]) rfl (RwN.mk rfl HK.out HS3.out HU3.out)
  · have hcp := fun ty => hcp0 ty (some ⟨b, o + m, none⟩) (k1 - m) (fun _ => rfl)
    clear hcp0
    go_wp2_with fail
    refine bodyPost_ret (v := .slice (some ⟨b, o, none⟩) n k1) (by simp [results, Try.results34, go_sem]) rfl (RwN.mk rfl HK.out HS3.out HU3.out)
end Go.Proofs.Ytegaeaonoggmkaa
