/- What canPush, canPop and Items of package ring return. -/
import Derived.Test.YtjedcpfipebncaaGCopy
import Derived.Test.YtjedcpfipebncaaGVal2
import Derived.Test.YtjedcpfipebncaaGOwn
namespace Go.Proofs.Ytjedcpfipebncaa
open Go.RowKit

set_option maxHeartbeats 2000000 in
set_option maxRecDepth 100000 in
theorem canPush_bad (c h l : Int) (n k : Nat) (A : Option Addr) (L : List It) (hv : vB c h l L = false) (w : World) (hS : Sl w A n L) :
    Calls Try.prog 32 #[.agg #[.int .i64 c, .int .i64 h, .int .i64 l, .slice A n k]] w fun e w' => e = .returned (.int .i64 2) ∧ Up w w' := by
  have K1 := Lib.hid (val_bad c h l n k A L hv (w.alloc (.cells #[.int .i64 c, .int .i64 h, .int .i64 l, .slice A n k] 24)) (hS.up ((Up.refl _).alloc _ _)))
  clear hS hv
  go_enter Try.func32, Try.ntmps32
  go_wp2_with (go_at_call 13; refine K1.out.mono ?_; rintro e w' ⟨rfl, hu⟩; have HU := Lib.hid hu; clear hu)
  go_ret
  exact ⟨rfl, ((Up.refl _).alloc _ _).trans HU.out⟩
set_option maxHeartbeats 2000000 in
set_option maxRecDepth 100000 in
theorem canPop_bad (c h l : Int) (n k : Nat) (A : Option Addr) (L : List It) (hv : vB c h l L = false) (w : World) (hS : Sl w A n L) :
    Calls Try.prog 35 #[.agg #[.int .i64 c, .int .i64 h, .int .i64 l, .slice A n k]] w fun e w' => e = .returned (.int .i64 2) ∧ Up w w' := by
  have K1 := Lib.hid (val_bad c h l n k A L hv (w.alloc (.cells #[.int .i64 c, .int .i64 h, .int .i64 l, .slice A n k] 24)) (hS.up ((Up.refl _).alloc _ _)))
  clear hS hv
  go_enter Try.func35, Try.ntmps35
  go_wp2_with (go_at_call 13; refine K1.out.mono ?_; rintro e w' ⟨rfl, hu⟩; have HU := Lib.hid hu; clear hu)
  go_ret
  exact ⟨rfl, ((Up.refl _).alloc _ _).trans HU.out⟩
set_option maxHeartbeats 2000000 in
set_option maxRecDepth 100000 in
theorem canPush_full (c h k : Nat) (A : Option Addr) (M : List It) (hc : 1 ≤ c) (hc' : c ≤ 65536) (hh : h < c) (hM : M.length ≤ c) (ht : M.length = c) (w : World) (hS : Sl w A c (ofL c h M)) :
    Calls Try.prog 32 #[.agg #[.int .i64 c, .int .i64 h, .int .i64 M.length, .slice A c k]] w fun e w' => e = .returned (.int .i64 5) ∧ Up w w' := by
  have K1 := Lib.hid (val_good c h k A M hc hc' hh hM (w.alloc (.cells #[.int .i64 c, .int .i64 h, .int .i64 M.length, .slice A c k] 24)) (hS.up ((Up.refl _).alloc _ _)))
  clear hS
  generalize M.length = l at *
  have t1 : (l == c) = true := by simp; omega
  have t2 : ((l : Int) == (c : Int)) = true := by simp; omega
  clear ht
  go_enter Try.func32, Try.ntmps32
  go_wp2_with (go_at_call 13; refine K1.out.mono ?_; rintro e w' ⟨rfl, hu⟩; have HU := Lib.hid hu; have c0 := hu.keep w.heap.size 0 (.int .i64 c) (by simp [go_sem]); have c2 := hu.keep w.heap.size 2 (.int .i64 l) (by simp [go_sem]); clear hu)
  go_ret
  exact ⟨rfl, ((Up.refl _).alloc _ _).trans HU.out⟩
set_option maxHeartbeats 2000000 in
set_option maxRecDepth 100000 in
theorem canPush_free (c h k : Nat) (A : Option Addr) (M : List It) (hc : 1 ≤ c) (hc' : c ≤ 65536) (hh : h < c) (hM : M.length ≤ c) (ht : M.length < c) (w : World) (hS : Sl w A c (ofL c h M)) :
    Calls Try.prog 32 #[.agg #[.int .i64 c, .int .i64 h, .int .i64 M.length, .slice A c k]] w fun e w' => e = .returned (.int .i64 0) ∧ Up w w' := by
  have K1 := Lib.hid (val_good c h k A M hc hc' hh hM (w.alloc (.cells #[.int .i64 c, .int .i64 h, .int .i64 M.length, .slice A c k] 24)) (hS.up ((Up.refl _).alloc _ _)))
  clear hS
  generalize M.length = l at *
  have t1 : (l == c) = false := by simp; omega
  have t2 : ((l : Int) == (c : Int)) = false := by simp; omega
  clear ht
  go_enter Try.func32, Try.ntmps32
  go_wp2_with (go_at_call 13; refine K1.out.mono ?_; rintro e w' ⟨rfl, hu⟩; have HU := Lib.hid hu; have c0 := hu.keep w.heap.size 0 (.int .i64 c) (by simp [go_sem]); have c2 := hu.keep w.heap.size 2 (.int .i64 l) (by simp [go_sem]); clear hu)
  go_ret
  exact ⟨rfl, ((Up.refl _).alloc _ _).trans HU.out⟩
set_option maxHeartbeats 2000000 in
set_option maxRecDepth 100000 in
theorem canPop_empty (c h k : Nat) (A : Option Addr) (M : List It) (hc : 1 ≤ c) (hc' : c ≤ 65536) (hh : h < c) (hM : M.length ≤ c) (ht : M.length = 0) (w : World) (hS : Sl w A c (ofL c h M)) :
    Calls Try.prog 35 #[.agg #[.int .i64 c, .int .i64 h, .int .i64 M.length, .slice A c k]] w fun e w' => e = .returned (.int .i64 7) ∧ Up w w' := by
  have K1 := Lib.hid (val_good c h k A M hc hc' hh hM (w.alloc (.cells #[.int .i64 c, .int .i64 h, .int .i64 M.length, .slice A c k] 24)) (hS.up ((Up.refl _).alloc _ _)))
  clear hS
  generalize M.length = l at *
  have t1 : ((l : Int) == 0) = true := by simp; omega
  have t2 : (l == 0) = true := by simp; omega
  clear ht
  go_enter Try.func35, Try.ntmps35
  go_wp2_with (go_at_call 13; refine K1.out.mono ?_; rintro e w' ⟨rfl, hu⟩; have HU := Lib.hid hu; have c0 := hu.keep w.heap.size 0 (.int .i64 c) (by simp [go_sem]); have c2 := hu.keep w.heap.size 2 (.int .i64 l) (by simp [go_sem]); clear hu)
  go_ret
  exact ⟨rfl, ((Up.refl _).alloc _ _).trans HU.out⟩
set_option maxHeartbeats 2000000 in
set_option maxRecDepth 100000 in
theorem canPop_some (c h k : Nat) (A : Option Addr) (M : List It) (hc : 1 ≤ c) (hc' : c ≤ 65536) (hh : h < c) (hM : M.length ≤ c) (ht : 0 < M.length) (w : World) (hS : Sl w A c (ofL c h M)) :
    Calls Try.prog 35 #[.agg #[.int .i64 c, .int .i64 h, .int .i64 M.length, .slice A c k]] w fun e w' => e = .returned (.int .i64 0) ∧ Up w w' := by
  have K1 := Lib.hid (val_good c h k A M hc hc' hh hM (w.alloc (.cells #[.int .i64 c, .int .i64 h, .int .i64 M.length, .slice A c k] 24)) (hS.up ((Up.refl _).alloc _ _)))
  clear hS
  generalize M.length = l at *
  have t1 : ((l : Int) == 0) = false := by simp; omega
  have t2 : (l == 0) = false := by simp; omega
  clear ht
  go_enter Try.func35, Try.ntmps35
  go_wp2_with (go_at_call 13; refine K1.out.mono ?_; rintro e w' ⟨rfl, hu⟩; have HU := Lib.hid hu; have c0 := hu.keep w.heap.size 0 (.int .i64 c) (by simp [go_sem]); have c2 := hu.keep w.heap.size 2 (.int .i64 l) (by simp [go_sem]); clear hu)
  go_ret
  exact ⟨rfl, ((Up.refl _).alloc _ _).trans HU.out⟩
set_option maxHeartbeats 2000000 in
set_option maxRecDepth 100000 in
theorem items_bad (c h l : Int) (n k : Nat) (A : Option Addr) (L : List It) (hv : vB c h l L = false) (w : World) (hS : Sl w A n L) :
    Calls Try.prog 19 #[.agg #[.int .i64 c, .int .i64 h, .int .i64 l, .slice A n k]] w fun e w' => e = .returned (.slice none 0 0) ∧ Up w w' := by
  have K1 := Lib.hid (val_bad c h l n k A L hv (w.alloc (.cells #[.int .i64 c, .int .i64 h, .int .i64 l, .slice A n k] 24)) (hS.up ((Up.refl _).alloc _ _)))
  clear hS hv
  go_enter Try.func19, Try.ntmps19
  go_wp2_with (go_at_call 13; refine K1.out.mono ?_; rintro e w' ⟨rfl, hu⟩; have HU := Lib.hid hu; clear hu)
  go_ret
  exact ⟨rfl, ((Up.refl _).alloc _ _).trans HU.out⟩
set_option maxHeartbeats 2000000 in
set_option maxRecDepth 100000 in
theorem items_good (c h k : Nat) (A : Option Addr) (M : List It) (hc : 1 ≤ c) (hc' : c ≤ 65536) (hh : h < c) (hk : c ≤ k) (hM : M.length ≤ c) (w : World) (hS : Sl w A c (ofL c h M)) :
    Calls Try.prog 19 #[.agg #[.int .i64 c, .int .i64 h, .int .i64 M.length, .slice A c k]] w fun e w' => ∃ A' k', e = .returned (.slice A' M.length k') ∧ M.length ≤ k' ∧ Sl w' A' M.length M ∧ Up w w' := by
  have K1 := Lib.hid (val_good c h k A M hc hc' hh hM (w.alloc (.cells #[.int .i64 c, .int .i64 h, .int .i64 M.length, .slice A c k] 24)) (hS.up ((Up.refl _).alloc _ _)))
  have K2 : ∀ w1, Up w w1 → Calls Try.prog 31 #[.slice (some ⟨w1.heap.size, 0, none⟩) M.length M.length, .agg #[.int .i64 c, .int .i64 h, .int .i64 M.length, .slice A c k]] (w1.alloc (.cells (fl (List.replicate M.length (0, 0))).toArray 35)) fun e w' => e = .returned (.tuple #[]) ∧ Up w w' ∧ Bi w' w1.heap.size M := fun w1 hu => by
    refine (copyEl c h k w1.heap.size M.length A M (List.replicate M.length (0, 0)) hc hc' hh hk hM (by simp) (Nat.le_refl _) _ (hS.up (hu.alloc _ _)) (Bi.new' _ _ _ rfl) (hS.ne (by omega) hu.size)).mono ?_
    rintro e w' ⟨rfl, h1, h2⟩
    refine ⟨rfl, h1.up w (hu.alloc _ _) hu.size hu.size, ?_⟩
    simpa using h2
  have H2 := Lib.hid K2
  have mk := fun W => make_run M.length (by omega) W
  clear hS K2
  obtain ⟨l, hl⟩ : ∃ l, l = M.length := ⟨_, rfl⟩
  have HL := Lib.hid hl
  rw [← hl] at hM K1 H2 mk ⊢
  clear hl
  go_enter Try.func19, Try.ntmps19
  go_wp2_with (first
    | (go_at_call 13; refine K1.out.mono ?_; rintro e w1 ⟨rfl, hu⟩; have HU := Lib.hid (((Up.refl w).alloc _ _).trans hu); have c0 := hu.keep w.heap.size 0 (.int .i64 c) (by simp [go_sem]); have c1 := hu.keep w.heap.size 1 (.int .i64 h) (by simp [go_sem]); have c2 := hu.keep w.heap.size 2 (.int .i64 l) (by simp [go_sem]); have c3 := hu.keep w.heap.size 3 (.slice A c k) (by simp [go_sem]); have hlt := hu.size; (try simp at hlt); have hls : w.heap.size < w1.heap.size := (by omega); clear hu)
    | (go_at_call 31; refine (H2.out w1 HU.out).mono ?_; rintro e w2 ⟨rfl, hu2, hb2⟩; have HU2 := Lib.hid hu2; have HB2 := Lib.hid hb2; clear hu2 hb2))
  go_ret
  exact ⟨some ⟨w1.heap.size, 0, none⟩, l, rfl, Nat.le_refl _, Bi.sl HB2.out HL.out.symm, HU2.out⟩
end Go.Proofs.Ytjedcpfipebncaa
