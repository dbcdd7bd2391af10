/- What wide.Mul returns. -/
import Derived.Test.YtinjainclhfahaaRows
import Derived.Test.YtinjainclhfahaaZWMulMq47
namespace Go.Proofs.Ytinjainclhfahaa
open Go.RowKit

set_option maxHeartbeats 4000000 in
set_option maxRecDepth 100000 in
theorem mul_up (ah al bh bl : Int) (h1 : Word ah) (h2 : Word al) (h3 : Word bh) (h4 : Word bl) (w : World) :
    Calls Try.prog 56 #[.agg #[.int .u64 ah, .int .u64 al], .agg #[.int .u64 bh, .int .u64 bl]] w fun e w' =>
      e = got2 (fit2 (val ah al * val bh bl)) (fits2 (val ah al * val bh bl)) ∧ Up w w' := by
  have tg : (ah = 0 ∨ bh = 0) ∨ (ah ≠ 0 ∧ bh ≠ 0) := by omega
  rcases tg with tg | ⟨t1, t2⟩
  case inr =>
    have ta : (ah != 0) = true := bne_iff_ne.2 t1
    have tb : (bh != 0) = true := bne_iff_ne.2 t2
    have hi := mul_far2 h1 h2 h3 h4 t1 t2
    have H1 := Lib.hid (fit2_no hi)
    have H2 := Lib.hid (fits2_no hi)
    clear hi t1 t2
    go_enter Try.func56, Try.ntmps56
    go_wp2
    refine bodyPost_ret (v := .tuple #[.agg #[.int .u64 0, .int .u64 0], .bool false]) (by simp [results, Try.results56, go_sem]) rfl ⟨?_, ?_⟩
    · rw [H1.out, H2.out]; rfl
    · repeat (first | exact Up.refl _ | refine Up.alloc ?_ _ _ | refine Up.setCell ?_ (by first | (simp; done) | (simp; omega) | omega) _ | refine Up.drewN ?_ _ | refine Up.drew ?_)
  go_enter Try.func56, Try.ntmps56
  go_upto_region 1 with fail
  go_cut [15] (fun t wx => t = .bool false ∧ wx = ((w.alloc (.cells #[.int .u64 ah, .int .u64 al] 35)).alloc (.cells #[.int .u64 bh, .int .u64 bl] 35)).alloc (.cells #[.int .u64 0, .int .u64 0] 35))
  case first =>
    by_cases t1 : ah = 0
    · have ta : (ah != 0) = false := bne_eq_false_iff_eq.2 t1
      clear t1 tg
      go_wp2_with fail
      go_meet
      exact ⟨rfl, rfl⟩
    · have ta : (ah != 0) = true := bne_iff_ne.2 t1
      have tb : (bh != 0) = false := bne_eq_false_iff_eq.2 (by omega)
      clear t1 tg
      go_wp2_with fail
      go_meet
      exact ⟨rfl, rfl⟩
  obtain ⟨rfl, rfl⟩ := hcut
  have HG := Lib.hid tg
  clear tg
  go_upto_region 3 with fail
  go_cut [6, 7] (fun t6 t7 wx => ∃ g k : Nat, w.heap.size + 2 < g ∧ w.heap.size + 2 < k ∧ t6 = .pointer (some ⟨g, 0, none⟩) ∧ t7 = .pointer (some ⟨k, 0, none⟩) ∧ wx.cell? ⟨g, 0, none⟩ = some (.int .u64 (hiZ (ah * bl))) ∧ wx.cell? ⟨g, 1, none⟩ = some (.int .u64 (loZ (ah * bl))) ∧ wx.cell? ⟨k, 0, none⟩ = some (.int .u64 (hiZ (al * bh))) ∧ wx.cell? ⟨k, 1, none⟩ = some (.int .u64 (loZ (al * bh))) ∧
    Up w wx ∧ wx.cell? ⟨w.heap.size, 0, none⟩ = some (.int .u64 ah) ∧ wx.cell? ⟨w.heap.size, 1, none⟩ = some (.int .u64 al) ∧ wx.cell? ⟨w.heap.size + 1, 0, none⟩ = some (.int .u64 bh) ∧ wx.cell? ⟨w.heap.size + 1, 1, none⟩ = some (.int .u64 bl) ∧ wx.cell? ⟨w.heap.size + 1 + 1, 0, none⟩ = some (.int .u64 0) ∧ wx.cell? ⟨w.heap.size + 1 + 1, 1, none⟩ = some (.int .u64 0))
  case first =>
    go_region_held3 (fun w' => Up w w' ∧ w'.cell? ⟨w.heap.size, 0, none⟩ = some (.int .u64 ah) ∧ w'.cell? ⟨w.heap.size, 1, none⟩ = some (.int .u64 al) ∧ w'.cell? ⟨w.heap.size + 1, 0, none⟩ = some (.int .u64 bh) ∧ w'.cell? ⟨w.heap.size + 1, 1, none⟩ = some (.int .u64 bl) ∧ w'.cell? ⟨w.heap.size + 1 + 1, 0, none⟩ = some (.int .u64 0) ∧ w'.cell? ⟨w.heap.size + 1 + 1, 1, none⟩ = some (.int .u64 0))
      (first | (exact keep6 (by assumption) (by assumption)) | (repeat (first | assumption | (exact Hid.out (by assumption)) | (exact base3n _ _ _ _ _ _ _ _ _ _) | refine drew6 ?_ | refine alloc6 ?_ | refine set6 ?_ (by omega) (by omega) (by omega) (by omega) (by omega) (by omega) (by omega))))
      (first
        | (go_at_call 63; (with_reducible refine (product_up ah bl h1 h4 _).mono ?_); rintro e w1 ⟨rfl, hu1⟩; have HU1 := Lib.hid hu1; have HS1 := Lib.hid (keep6 HU1 (by assumption)); obtain ⟨hc1, hz1⟩ := hu1.cells; have hs1 := hu1.size; (try simp at hs1); clear hu1; (try (have p1_0 : w.heap.size < w1.heap.size := by omega)); (try (have p1_1 : w.heap.size + 1 < w1.heap.size := by omega)); (try (have p1_2 : w.heap.size + 1 + 1 < w1.heap.size := by omega)); (try (have p1_3 : w.heap.size + 1 + 1 + 1 < w1.heap.size := by omega)); (try (have p1_4 : w.heap.size + 1 + 1 + 1 + 1 < w1.heap.size := by omega)))
        | (go_at_call 63; (with_reducible refine (product_up al bh h2 h3 _).mono ?_); rintro e w2 ⟨rfl, hu2⟩; have HU2 := Lib.hid hu2; have HS2 := Lib.hid (keep6 HU2 (by assumption)); obtain ⟨hc2, hz2⟩ := hu2.cells; have hs2 := hu2.size; (try simp at hs2); clear hu2; (try (have p2_0 : w.heap.size < w2.heap.size := by omega)); (try (have p2_1 : w.heap.size + 1 < w2.heap.size := by omega)); (try (have p2_2 : w.heap.size + 1 + 1 < w2.heap.size := by omega)); (try (have p2_3 : w.heap.size + 1 + 1 + 1 < w2.heap.size := by omega)); (try (have p2_4 : w.heap.size + 1 + 1 + 1 + 1 < w2.heap.size := by omega)); (try (have p2_5 : w1.heap.size < w2.heap.size := by omega)); (try (have p2_6 : w1.heap.size + 1 < w2.heap.size := by omega))))
    all_goals
      go_wp2_with fail
      go_meet
      refine ⟨_, _, ?_, ?_, rfl, rfl, ?_, ?_, ?_, ?_, by assumption⟩
      · omega
      · omega
      all_goals (first | (simp [go_sem, *]; done) | ((have q2 : w1.heap.size < w1.heap.size + 1 + 1 := by omega); simp [go_sem, *]; done))
  obtain ⟨g, k, lg, lk, rfl, rfl, g0, g1, k0, k1, hS⟩ := hcut
  obtain ⟨hup, a0, a1, b0, b1, r0, r1⟩ := hS
  have HUP := Lib.hid hup
  have z0 := hup.own 2 0
  have z1 := hup.own 2 1
  rw [show w.heap.size + 2 = w.heap.size + 1 + 1 by omega] at z0 z1
  have hsz := hup.size
  have lr : w.heap.size + 1 + 1 < wc.heap.size := World.block_lt_of_cell? _ _ r0
  have lg' : g < wc.heap.size := World.block_lt_of_cell? _ _ g0
  have lk' : k < wc.heap.size := World.block_lt_of_cell? _ _ k0
  clear hup
  have hm := mul_near2 h1 h2 h3 h4 HG.out
  by_cases t1 : hiZ (ah * bl) = 0
  · have ta : (hiZ (ah * bl) != 0) = false := bne_eq_false_iff_eq.2 t1
    by_cases t2 : hiZ (al * bh) = 0
    · have tb : (hiZ (al * bh) != 0) = false := bne_eq_false_iff_eq.2 t2
      obtain ⟨s0, s1, s2⟩ := hm.2 t1 t2
      have HM := Lib.hid s2
      have y0 := (loZ_word (ah * bl)).1
      have y1 := (loZ_word (al * bh)).1
      have y2 := (loZ_word (ah * bl)).2
      have y3 := (loZ_word (al * bh)).2
      have hww : IntKind.u64.wrap (loZ (ah * bl) + loZ (al * bh)) = loZ (ah * bl) + loZ (al * bh) := keep64z _ s0 s1
      have hws : Word (loZ (ah * bl) + loZ (al * bh)) := ⟨s0, s1⟩
      have hp1 := hiZ_word (mul_word h2 h4)
      have hp2 := loZ_word (al * bl)
      clear hm t1 t2 s2
      go_wp2_with fail
      go_region_held3 (fun w' => Up w w' ∧ w'.cell? ⟨w.heap.size, 1, none⟩ = some (.int .u64 al) ∧ w'.cell? ⟨w.heap.size + 1, 1, none⟩ = some (.int .u64 bl) ∧ w'.cell? ⟨g, 1, none⟩ = some (.int .u64 (loZ (ah * bl))) ∧ w'.cell? ⟨k, 1, none⟩ = some (.int .u64 (loZ (al * bh))))
        (first | (exact keep4 (by assumption) (by assumption)) | (exact ⟨HUP.out.drew, a1, b1, g1, k1⟩) | (repeat (first | assumption | refine set4 ?_ (by omega) (by omega) (by omega) (by omega) (by omega))))
        (first
          | (go_at_call 63; (with_reducible refine (product_up al bl h2 h4 _).mono ?_); rintro e w4 ⟨rfl, hu4⟩; have HU4 := Lib.hid hu4; obtain ⟨hc4, hz4⟩ := hu4.cells; have hs4 := hu4.size; (try simp at hs4); clear hu4; (try unfold got2); (have p4_0 : w.heap.size < w4.heap.size := by omega); (have p4_1 : w.heap.size + 1 < w4.heap.size := by omega); (have p4_2 : w.heap.size + 1 + 1 < w4.heap.size := by omega); (have p4_3 : g < w4.heap.size := by omega); (have p4_4 : k < w4.heap.size := by omega); have c4_0 : w4.cell? ⟨w.heap.size + 1 + 1, 0, none⟩ = some (.int .u64 0) := (hc4 _ _ lr).trans r0; have c4_1 : w4.cell? ⟨w.heap.size + 1 + 1, 1, none⟩ = some (.int .u64 0) := (hc4 _ _ lr).trans r1; have z4_0 : w4.frozen? ⟨w.heap.size + 1 + 1, 0, none⟩ = false := (hz4 _).trans z0; have z4_1 : w4.frozen? ⟨w.heap.size + 1 + 1, 1, none⟩ = false := (hz4 _).trans z1; clear hc4 hz4)
          | (go_at_call 55; (with_reducible refine (add_up (hiZ (al * bl)) (loZ (al * bl)) (loZ (ah * bl) + loZ (al * bh)) 0 hp1 hp2 hws word_0 _).mono ?_); rintro e w5 ⟨rfl, hu5⟩; have HU5 := Lib.hid hu5; obtain ⟨hc5, hz5⟩ := hu5.cells; have hs5 := hu5.size; (try simp at hs5); clear hu5; (try unfold got2); (have p5_0 : w.heap.size < w5.heap.size := by omega); (have p5_1 : w.heap.size + 1 < w5.heap.size := by omega); (have p5_2 : w.heap.size + 1 + 1 < w5.heap.size := by omega); (have p5_3 : g < w5.heap.size := by omega); (have p5_4 : k < w5.heap.size := by omega); have c5_0 : w5.cell? ⟨w.heap.size + 1 + 1, 0, none⟩ = some (.int .u64 0) := (hc5 _ _ p4_2).trans c4_0; have c5_1 : w5.cell? ⟨w.heap.size + 1 + 1, 1, none⟩ = some (.int .u64 0) := (hc5 _ _ p4_2).trans c4_1; have z5_0 : w5.frozen? ⟨w.heap.size + 1 + 1, 0, none⟩ = false := (hz5 _).trans z4_0; have z5_1 : w5.frozen? ⟨w.heap.size + 1 + 1, 1, none⟩ = false := (hz5 _).trans z4_1; clear hc5 hz5))
      go_wp2_with fail
      refine bodyPost_ret (v := .tuple #[.agg #[.int .u64 (hiZ (fit2 (val (hiZ (al * bl)) (loZ (al * bl)) + val (loZ (ah * bl) + loZ (al * bh)) 0))), .int .u64 (loZ (fit2 (val (hiZ (al * bl)) (loZ (al * bl)) + val (loZ (ah * bl) + loZ (al * bh)) 0)))], .bool (fits2 (val (hiZ (al * bl)) (loZ (al * bl)) + val (loZ (ah * bl) + loZ (al * bh)) 0))]) (by simp [results, Try.results56, go_sem, c5_0, c5_1]) rfl ⟨?_, ?_⟩
      · rw [HM.out]; rfl
      · exact And.left (by assumption)
    · have tb : (hiZ (al * bh) != 0) = true := bne_iff_ne.2 t2
      have hi := hm.1 (Or.inr t2)
      have H1 := Lib.hid (fit2_no hi)
      have H2 := Lib.hid (fits2_no hi)
      clear hm t1 t2 hi
      go_wp2_with fail
      refine bodyPost_ret (v := .tuple #[.agg #[.int .u64 0, .int .u64 0], .bool false]) (by simp [results, Try.results56, go_sem, r0, r1]) rfl ⟨?_, ?_⟩
      · rw [H1.out, H2.out]; rfl
      · repeat (first | exact Up.refl _ | (refine Up.trans ?_ (HUP.out); skip) | refine Up.alloc ?_ _ _ | refine Up.setCell ?_ (by first | (simp; done) | (simp; omega) | omega) _ | refine Up.drewN ?_ _ | refine Up.drew ?_)
  · have ta : (hiZ (ah * bl) != 0) = true := bne_iff_ne.2 t1
    have hi := hm.1 (Or.inl t1)
    have H1 := Lib.hid (fit2_no hi)
    have H2 := Lib.hid (fits2_no hi)
    clear hm t1 hi
    go_wp2_with fail
    refine bodyPost_ret (v := .tuple #[.agg #[.int .u64 0, .int .u64 0], .bool false]) (by simp [results, Try.results56, go_sem, r0, r1]) rfl ⟨?_, ?_⟩
    · rw [H1.out, H2.out]; rfl
    · repeat (first | exact Up.refl _ | (refine Up.trans ?_ (HUP.out); skip) | refine Up.alloc ?_ _ _ | refine Up.setCell ?_ (by first | (simp; done) | (simp; omega) | omega) _ | refine Up.drewN ?_ _ | refine Up.drew ?_)

end Go.Proofs.Ytinjainclhfahaa
