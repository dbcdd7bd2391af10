/- What copyElements of package ring leaves. -/
import Derived.Test.YtjedcpfipebncaaGLaw
import Derived.Test.YtjedcpfipebncaaGVal
namespace Go.Proofs.Ytjedcpfipebncaa
open Go.RowKit

set_option maxHeartbeats 2000000 in
set_option maxRecDepth 100000 in
theorem copyEl (c h k g q : Nat) (A : Option Addr) (M Z : List It) (hc : 1 ≤ c) (hc' : c ≤ 65536) (hh : h < c) (hk : c ≤ k) (hM : M.length ≤ c) (hZ : M.length ≤ Z.length) (hq : M.length ≤ q) (w : World) (hS : Sl w A c (ofL c h M)) (hB : Bi w g Z) (hA : ∀ b o, A = some ⟨b, o, none⟩ → ¬ b = g) :
    Calls Try.prog 31 #[.slice (some ⟨g, 0, none⟩) M.length q, .agg #[.int .i64 c, .int .i64 h, .int .i64 M.length, .slice A c k]] w fun e w' => e = .returned (.tuple #[]) ∧ Wr w w' g g ∧ Bi w' g (M ++ Z.drop M.length) := by
  have HS := Lib.hid hS
  have HB := Lib.hid hB
  obtain ⟨l, hl⟩ : ∃ l, l = M.length := ⟨_, rfl⟩
  have HL := Lib.hid hl
  rw [← hl] at hM hZ hq ⊢
  clear hS hB hl
  go_enter Try.func31, Try.ntmps31
  have HC : Hid (Sl w (A.map (·.add (h * 2))) (c - h) ((ofL c h M).drop h)) := Lib.hid (by have := HS.out.cut (k := h) (cap := k) (by omega) hk; rwa [if_neg (by omega)] at this)
  go_wp2_with (refine wpList_copyItems (o := ⟨some 11, _, _, _, _, _⟩) rfl (.tmp 5) (.tmp 10) rfl g 0 l q (c - h) (k - h) (some ⟨g, 0, none⟩) (A.map (·.add (h * 2))) rfl rfl Z ((ofL c h M).drop h) (Bi.up HB.out ((Up.refl w).alloc _ _)) (HC.out.up ((Up.refl w).alloc _ _)) (by omega) (fun _ => by simp) ?_; intro w2 hcp hb2; have HCP := Lib.hid hcp; have HB2 := Lib.hid hb2; clear hcp hb2; have c3 := Lib.hid (HCP.out.keep (b := w.heap.size) (o := 3) (v := .slice A c k) (by have := Blk.lt HB.out; omega) (by simp [go_sem])))
  have HZ := Lib.hid (two_parts c h M hh (by rw [← HL.out]; exact hM))
  rw [← HL.out] at HZ
  have c3' := c3.out
  generalize hn1 : min (c - h) l = n1 at *
  have n1l : n1 ≤ l := by omega
  have n1c : l - n1 ≤ c := by omega
  have HN := Lib.hid hn1
  clear hn1
  have HS2 : Hid (Sl w2 A c (ofL c h M)) := Lib.hid (by
    have h1 := HS.out.up ((Up.refl w).alloc #[.int .i64 c, .int .i64 h, .int .i64 l, .slice A c k] 24)
    refine ⟨h1.1, fun hn => ?_⟩
    obtain ⟨b, o, e, hcell⟩ := h1.2 hn
    exact ⟨b, o, e, fun j u hj => HCP.out.keep (by intro e2; exact hA b o e (by omega)) (hcell j u hj)⟩)
  have hlz : (Z.take 0 ++ (((ofL c h M).drop h).take n1 ++ Z.drop (0 + n1))).length = Z.length := by
    have := ofL_length c h M
    have := HN.out
    simp; omega
  have hlc : ((ofL c h M).drop h).length = c - h := by simp [ofL_length]
  have HE : Hid (((Z.take 0 ++ (((ofL c h M).drop h).take n1 ++ Z.drop (0 + n1))).take n1 ++ ((ofL c h M).take (min c (l - n1)) ++ (Z.take 0 ++ (((ofL c h M).drop h).take n1 ++ Z.drop (0 + n1))).drop (n1 + min c (l - n1)))) = M ++ Z.drop l) := Lib.hid (by
    have h1 : (((ofL c h M).drop h).take n1).length = n1 := by rw [List.length_take, hlc]; have := HN.out; omega
    rw [show min c (l - n1) = l - n1 by omega, List.take_zero, List.nil_append, Nat.zero_add, List.take_append_of_le_length (by omega), List.take_of_length_le (by omega), ← List.append_assoc, HZ.out]
    congr 1
    rw [List.drop_append, h1, List.drop_of_length_le (by omega), List.nil_append, List.drop_drop]
    congr 1
    omega)
  by_cases hqn : q = n1
  · obtain ⟨w3, hr, hcp3, hb3⟩ := copy_run 3 g n1 (l - n1) 0 c k (some ⟨g, 0, none⟩) A _ (ofL c h M) w2.drew HB2.out HS2.out (by rw [hlz]; omega) (fun hx => absurd hx (by omega))
    rw [HE.out] at hb3
    have HC3 := Lib.hid hcp3
    have HB3 := Lib.hid hb3
    clear hcp3 hb3 hlz hlc
    go_region
    go_end0
    exact ⟨rfl, (((Wr.refl w g g).alloc _ _).cp HCP.out).drew.cp HC3.out, HB3.out⟩
  · obtain ⟨w3, hr, hcp3, hb3⟩ := copy_run 3 g n1 (l - n1) (q - n1) c k (some ⟨g, n1 * 2, none⟩) A _ (ofL c h M) w2.drew HB2.out HS2.out (by rw [hlz]; omega) (fun hx => rfl)
    rw [HE.out] at hb3
    have HC3 := Lib.hid hcp3
    have HB3 := Lib.hid hb3
    clear hcp3 hb3 hlz hlc
    go_region
    go_end0
    exact ⟨rfl, (((Wr.refl w g g).alloc _ _).cp HCP.out).drew.cp HC3.out, HB3.out⟩
end Go.Proofs.Ytjedcpfipebncaa
