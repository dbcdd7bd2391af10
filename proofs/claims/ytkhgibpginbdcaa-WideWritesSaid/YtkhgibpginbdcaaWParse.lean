/- What wide.Parse returns. -/
import Derived.Test.YtkhgibpginbdcaaWAppend
import Derived.Test.YtkhgibpginbdcaaWFormat
namespace Go.Proofs.Ytkhgibpginbdcaa
open Go.RowKit

/-- One byte more of a number. -/
def pstep (o : Option Int) (c : UInt8) : Option Int :=
  match o with
  | some n => if apB n (c.toNat : Int) = true then some (apV n (c.toNat : Int)) else none
  | none => none
def pfold (l : List UInt8) : Option Int := l.foldl pstep (some 0)
/-- The bytes may be those of a number: some, not too many, no zero ahead of others. -/
def okHead (l : List UInt8) : Bool := !l.isEmpty && decide (l.length ≤ 39) && (l.head? != some 48 || l == [48])
def par (l : List UInt8) : Option Int := if okHead l = true then pfold l else none
def pv (l : List UInt8) : Int := (par l).getD 0
def pb (l : List UInt8) : Bool := (par l).isSome
theorem pfold_none (l : List UInt8) : l.foldl pstep none = none := by
  induction l with
  | nil => rfl
  | cons c l ih => rw [List.foldl_cons]; exact ih
theorem pfold_far (l : List UInt8) (i : Nat) (h : pfold (l.take i) = none) : pfold l = none := by
  unfold pfold at *
  rw [← List.take_append_drop i l, List.foldl_append, h]
  exact pfold_none _
theorem take_snoc (s : ByteArray) (k : Nat) (h : k < s.size) : s.data.toList.take (k + 1) = s.data.toList.take k ++ [s[k]] := by
  rw [List.take_succ_eq_append_getElem (by simpa using h)]; rfl
theorem pfold_snoc (s : ByteArray) (k : Nat) (h : k < s.size) (n : Int) (hn : pfold (s.data.toList.take k) = some n) :
    pfold (s.data.toList.take (k + 1)) = if apB n (s[k].toNat : Int) = true then some (apV n (s[k].toNat : Int)) else none := by
  rw [take_snoc s k h]
  unfold pfold at *
  rw [List.foldl_append, hn]
  rfl
theorem apV_in (n c : Int) : In2 (apV n c) := by
  unfold apV
  split
  · exact fit2_in _
  · exact ⟨by decide, by decide⟩
theorem pv_no {l : List UInt8} (h : okHead l = false) : pv l = 0 ∧ pb l = false := by
  unfold pv pb par; rw [h]; exact ⟨rfl, rfl⟩
theorem pv_fall {l : List UInt8} (h : pfold l = none) : pv l = 0 ∧ pb l = false := by
  unfold pv pb par; rw [h]; split <;> exact ⟨rfl, rfl⟩
theorem pv_yes {l : List UInt8} {n : Int} (h : okHead l = true) (hn : pfold l = some n) : pv l = n ∧ pb l = true := by
  unfold pv pb par; rw [if_pos h, hn]; exact ⟨rfl, rfl⟩
theorem empty_iff (s : ByteArray) : s.data.toList.isEmpty = decide (s.size = 0) := by
  have : s.data.toList.length = s.size := rfl
  rw [← this]; cases s.data.toList <;> simp
theorem head_of (s : ByteArray) (h : 0 < s.size) : s.data.toList.head? = some s[0] := by
  have hl : 0 < s.data.toList.length := h
  rw [List.head?_eq_getElem?, List.getElem?_eq_getElem hl]; rfl

set_option maxHeartbeats 4000000 in
set_option maxRecDepth 100000 in
theorem parse_up (s : ByteArray) (hs : s.size ≤ 140737488351232) (w : World) :
    Calls Try.prog 33 #[.string s] w fun e w' => e = got2 (pv s.data.toList) (pb s.data.toList) ∧ Up w w' := by
  have hlen : s.data.toList.length = s.size := rfl
  have HLEN := Lib.hid hlen
  clear hlen
  go_enter Try.func33, Try.ntmps33
  go_upto_region 1 with fail
  go_cut [23] (fun t wx => t = .bool (!okHead s.data.toList) ∧ wx = w.alloc (.cells #[.int .u64 0, .int .u64 0] 24))
  case first =>
    have HTL := Lib.hid (ByteArray.toList_eq s)
    have HEM := Lib.hid (empty_iff s)
    by_cases c0 : s.size = 0
    · have te : s.toList.isEmpty = true := by rw [HTL.out, HEM.out]; exact decide_eq_true c0
      have hk : okHead s.data.toList = false := by unfold okHead; rw [HEM.out, decide_eq_true c0]; rfl
      have HK := Lib.hid hk
      have te' : s.toList = [] := by simpa using te
      clear c0 hk
      go_wp2_with fail
      go_meet
      exact ⟨by rw [HK.out]; rfl, rfl⟩
    have te : s.toList.isEmpty = false := by rw [HTL.out, HEM.out]; exact decide_eq_false c0
    have te' : ¬ s.toList = [] := fun h => by rw [h] at te; exact absurd te (by decide)
    have hp : 0 < s.size := by omega
    by_cases c1 : 39 < s.size
    · have tl : decide (39 < (s.size : Int)) = true := decide_eq_true (by omega)
      have HK := Lib.hid (show okHead s.data.toList = false by unfold okHead; rw [HLEN.out, decide_eq_false (by omega), Bool.and_false]; rfl)
      go_wp2_with fail
      go_meet
      exact ⟨by rw [HK.out]; rfl, rfl⟩
    have tl : decide (39 < (s.size : Int)) = false := decide_eq_false (by omega)
    by_cases c2 : s[0] = 48
    · have t0 : ((s[0].toNat : Int) == 48) = true := by rw [c2]; decide
      by_cases c3 : s.data.toList = [48]
      · have tq : (s.toList == [48]) = true := by rw [HTL.out, c3]; decide
        have HK := Lib.hid (show okHead s.data.toList = true by rw [c3]; decide)
        clear c3
        go_wp2_with fail
        all_goals
          go_meet
          exact ⟨by rw [HK.out]; simp [*], rfl⟩
      · have tq : (s.toList == [48]) = false := by rw [HTL.out]; exact beq_eq_false_iff_ne.2 c3
        have HK := Lib.hid (show okHead s.data.toList = false by
          unfold okHead
          rw [head_of s hp, c2, beq_eq_false_iff_ne.2 c3]
          simp)
        clear c3
        go_wp2_with fail
        all_goals
          go_meet
          exact ⟨by rw [HK.out]; simp [*], rfl⟩
    · have hne : (s[0].toNat : Int) ≠ 48 := fun h => c2 (UInt8.toNat_inj.1 (show s[0].toNat = 48 by omega))
      have t0 : ((s[0].toNat : Int) == 48) = false := beq_eq_false_iff_ne.2 hne
      have HK := Lib.hid (show okHead s.data.toList = true by
        unfold okHead
        rw [head_of s hp, HEM.out, HLEN.out, decide_eq_false c0, decide_eq_true (by omega)]
        simp [c2])
      clear hne
      go_wp2_with fail
      all_goals
        go_meet
        exact ⟨by rw [HK.out]; simp [*], rfl⟩
  obtain ⟨rfl, rfl⟩ := hcut
  by_cases hk : okHead s.data.toList = true
  case neg =>
    have hk' : okHead s.data.toList = false := by simpa using hk
    have H := Lib.hid (pv_no hk')
    have HK := Lib.hid hk'
    clear hk hk'
    rw [HK.out]
    go_wp2_with fail
    refine bodyPost_ret (v := .tuple #[.agg #[.int .u64 0, .int .u64 0], .bool false]) (by simp [results, Try.results33, go_sem]) rfl ⟨?_, ?_⟩
    · rw [H.out.1, H.out.2]; rfl
    · repeat (first | exact Up.refl _ | refine Up.alloc ?_ _ _ | refine Up.setCell ?_ (by first | (simp; done) | (simp; omega) | omega) _ | refine Up.drewN ?_ _ | refine Up.drew ?_)
  have HK := Lib.hid hk
  clear hk
  rw [HK.out]
  go_wp2_with fail
  go_loopw [28] (fun u wr => ∃ (n : Int) (i : Nat), u = .int .i64 (i : Int) ∧ i ≤ s.size ∧ In2 n ∧ Hid (pfold (s.data.toList.take i) = some n) ∧ Up w wr ∧ wr.cell? ⟨w.heap.size + 1, 0, none⟩ = some (.int .u64 (hiZ n)) ∧ wr.cell? ⟨w.heap.size + 1, 1, none⟩ = some (.int .u64 (loZ n)) ∧ wr.cell? ⟨w.heap.size, 0, none⟩ = some (.int .u64 0) ∧ wr.cell? ⟨w.heap.size, 1, none⟩ = some (.int .u64 0)) (fun u _ => s.size - (intOf u).toNat)
  case atStart =>
    refine ⟨0, 0, rfl, by omega, ⟨by decide, by decide⟩, Lib.hid rfl, ?_, ?_, ?_, ?_, ?_⟩
    · repeat (first | exact Up.refl _ | refine Up.alloc ?_ _ _ | refine Up.setCell ?_ (by first | (simp; done) | (simp; omega) | omega) _ | refine Up.drewN ?_ _ | refine Up.drew ?_)
    all_goals simp [go_sem, hiZ_0, loZ_0]
  case round =>
    obtain ⟨n, i, rfl, hin, hn, HP, hup, q0, q1, r0, r1⟩ := hrel
    have HUP := Lib.hid hup
    have z0 := hup.own 0 0
    have z1 := hup.own 0 1
    have zq0 := hup.own 1 0
    have zq1 := hup.own 1 1
    simp only [Nat.add_zero] at z0 z1
    have lq : w.heap.size + 1 < wr.heap.size := World.block_lt_of_cell? _ _ q0
    have lr : w.heap.size < wr.heap.size := by omega
    clear hup
    by_cases hlt : i < s.size
    · have b0 : 0 ≤ (s[i].toNat : Int) := by omega
      have b1 : (s[i].toNat : Int) ≤ 255 := by have := s[i].toNat_lt; omega
      have HS := Lib.hid (pfold_snoc s i hlt n HP.out)
      have HAP := Lib.hid (fun W => append_up n (s[i].toNat : Int) hn b0 b1 W)
      go_upto_region 7 with fail
      go_cut [6, 7] (fun t6 t7 wx => ∃ g : Nat, t6 = .pointer (some ⟨g, 0, none⟩) ∧ t7 = .bool (apB n (s[i].toNat : Int)) ∧ wr.heap.size ≤ g ∧ wx.cell? ⟨g, 0, none⟩ = some (.int .u64 (hiZ (apV n (s[i].toNat : Int)))) ∧ wx.cell? ⟨g, 1, none⟩ = some (.int .u64 (loZ (apV n (s[i].toNat : Int)))) ∧
        Up wr wx ∧ wx.cell? ⟨w.heap.size + 1, 0, none⟩ = some (.int .u64 (hiZ n)) ∧ wx.cell? ⟨w.heap.size + 1, 1, none⟩ = some (.int .u64 (loZ n)))
      case first =>
        go_region_held3 (fun w' => Up wr w' ∧ w'.cell? ⟨w.heap.size + 1, 0, none⟩ = some (.int .u64 (hiZ n)) ∧ w'.cell? ⟨w.heap.size + 1, 1, none⟩ = some (.int .u64 (loZ n)))
          (first | (exact keep2 (by assumption) (by assumption)) | (repeat (first | assumption | (exact Hid.out (by assumption)) | (exact ⟨Up.refl _, q0, q1⟩) | (refine keep2 (Lib.hid ((Up.refl _).alloc _ _)) ?_) | (refine keep2 (Lib.hid (Up.refl _).drew) ?_) | (refine set2 ?_ (by omega) (by omega) (by omega)))))
          (first
            | (go_at_call 47; (with_reducible refine (HAP.out _).mono ?_); rintro e w3 ⟨rfl, hu3⟩; have HU3 := Lib.hid hu3; have HS3 := Lib.hid (keep2 HU3 (by assumption)); obtain ⟨hc3, hz3⟩ := hu3.cells; have hs3 := hu3.size; (try simp at hs3); clear hu3; (try unfold got2); (try (have p3_0 : wr.heap.size < w3.heap.size := by omega)))
            )
        all_goals
          go_wp2_with fail
          go_meet
          refine ⟨_, rfl, rfl, ?_, ?_, ?_, by assumption⟩
          · omega
          all_goals simp [go_sem, *]
      case rest =>
        obtain ⟨g, rfl, rfl, lg, g0, g1, hup', q0', q1'⟩ := hcut
        have r0' := hup'.keep _ _ _ r0
        have r1' := hup'.keep _ _ _ r1
        have z0' := (hup'.cells.2 ⟨w.heap.size, 0, none⟩).trans z0
        have z1' := (hup'.cells.2 ⟨w.heap.size, 1, none⟩).trans z1
        have zq0' := (hup'.cells.2 ⟨w.heap.size + 1, 0, none⟩).trans zq0
        have zq1' := (hup'.cells.2 ⟨w.heap.size + 1, 1, none⟩).trans zq1
        have HUP2 := Lib.hid (HUP.out.trans hup')
        clear hup' q0 q1 r0 r1 z0 z1 zq0 zq1
        by_cases hb : apB n (s[i].toNat : Int) = true
        · have HF := Lib.hid (HS.out.trans (if_pos hb))
          have hin2 := apV_in n (s[i].toNat : Int)
          have kg1 : ¬ g = w.heap.size + 1 := by omega
          have kg2 : ¬ g = w.heap.size := by omega
          go_wp2_with fail
          go_roundw
          case rel =>
            refine ⟨apV n (s[i].toNat : Int), i + 1, by go_num, by omega, hin2, HF, ?_, ?_, ?_, ?_, ?_⟩
            · repeat (first | exact Up.refl _ | (refine Up.trans ?_ (HUP2.out); skip) | refine Up.alloc ?_ _ _ | refine Up.setCell ?_ (by first | (simp; done) | (simp; omega) | omega) _ | refine Up.drewN ?_ _ | refine Up.drew ?_)
            all_goals simp [go_sem, *]
          case measure => simp only [intOf]; omega
        · have hb' : apB n (s[i].toNat : Int) = false := by simpa using hb
          have H := Lib.hid (pv_fall (pfold_far _ _ (HS.out.trans (if_neg hb))))
          clear hb
          go_wp2_with fail
          refine bodyPost_ret (v := .tuple #[.agg #[.int .u64 0, .int .u64 0], .bool false]) (by simp [results, Try.results33, go_sem, r0', r1']) rfl ⟨?_, ?_⟩
          · rw [H.out.1, H.out.2]; rfl
          · repeat (first | exact Up.refl _ | (refine Up.trans ?_ (HUP2.out); skip) | refine Up.alloc ?_ _ _ | refine Up.setCell ?_ (by first | (simp; done) | (simp; omega) | omega) _ | refine Up.drewN ?_ _ | refine Up.drew ?_)
    · have hfull : s.data.toList.take i = s.data.toList := List.take_of_length_le (by rw [HLEN.out]; omega)
      have H := Lib.hid (pv_yes HK.out (show pfold s.data.toList = some n by rw [← hfull]; exact HP.out))
      clear hfull
      go_wp2_with fail
      refine bodyPost_ret (v := .tuple #[.agg #[.int .u64 (hiZ n), .int .u64 (loZ n)], .bool true]) (by simp [results, Try.results33, go_sem, r0, r1]) rfl ⟨?_, ?_⟩
      · rw [H.out.1, H.out.2]; rfl
      · repeat (first | exact Up.refl _ | (refine Up.trans ?_ (HUP.out); skip) | refine Up.alloc ?_ _ _ | refine Up.setCell ?_ (by first | (simp; done) | (simp; omega) | omega) _ | refine Up.drewN ?_ _ | refine Up.drew ?_)

end Go.Proofs.Ytkhgibpginbdcaa
