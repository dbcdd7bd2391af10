/- What the comparisons of package wide, and of its reference, return; isZero, Of, and the reference's difference. -/
import Derived.Test.YtafkoddgefcpnaaGreatRows
import Derived.Test.YtafkoddgefcpnaaGreatZWAddq7
namespace Go.Proofs.YtafkoddgefcpnaaGreat
open Go.RowKit

theorem cmpZ_hi {ah al bh bl:Int} (h2:Word al) (h4:Word bl) (h:ah ≠ bh):cmpZ (val ah al) (val bh bl)=cmpZ ah bh:=by
  obtain ⟨b1,b2⟩:=h2;obtain ⟨d1,d2⟩:=h4
  by_cases hl:ah<bh
  · rw [cmpZ_lt hl,cmpZ_lt (by unfold val;omega)]
  · rw [cmpZ_gt (show bh<ah by omega),cmpZ_gt (by unfold val;omega)]
theorem cmpZ_lo {ah al bl:Int}:cmpZ (val ah al) (val ah bl)=cmpZ al bl:=by
  by_cases hl:al<bl
  · rw [cmpZ_lt hl,cmpZ_lt (by unfold val;omega)]
  · by_cases he:al=bl
    · rw [cmpZ_eq he,cmpZ_eq (by unfold val;omega)]
    · rw [cmpZ_gt (show bl<al by omega),cmpZ_gt (by unfold val;omega)]

/-- A number is 0. -/
def zB (v:Int):Bool:=decide (v=0)
theorem zB_yes {v:Int} (h:v=0):zB v=true:=by unfold zB;exact decide_eq_true h
theorem zB_no {v:Int} (h:v ≠ 0):zB v=false:=by unfold zB;exact decide_eq_false h

theorem of_up (n:Int) (w:World):Calls Tryz.prog 60 #[.int .u64 n] w fun e w'=>e=.returned (.agg #[.int .u64 0,.int .u64 n])∧Up w w':=by
  go_enter Tryz.func60,Tryz.ntmps60
  go_wp2
  refine bodyPost_ret (v:=.agg #[.int .u64 0,.int .u64 n]) (by simp [results,Tryz.results60,go_sem]) rfl ⟨?_,?_⟩
  · rfl
  · repeat (first | exact Up.refl _ | refine Up.alloc ?_ _ _ | refine Up.setCell ?_ (by first | (simp;done) | (simp;omega) | omega) _ | refine Up.drewN ?_ _ | refine Up.drew ?_)

theorem rof_up (n:Int) (w:World):Calls Tryz.prog 86 #[.int .u64 n] w fun e w'=>e=.returned (.agg #[.int .u64 0,.int .u64 n])∧Up w w':=by
  go_enter Tryz.func86,Tryz.ntmps86
  go_wp2
  refine bodyPost_ret (v:=.agg #[.int .u64 0,.int .u64 n]) (by simp [results,Tryz.results86,go_sem]) rfl ⟨?_,?_⟩
  · rfl
  · repeat (first | exact Up.refl _ | refine Up.alloc ?_ _ _ | refine Up.setCell ?_ (by first | (simp;done) | (simp;omega) | omega) _ | refine Up.drewN ?_ _ | refine Up.drew ?_)

theorem isZero_up (ah al:Int) (h1:Word ah) (h2:Word al) (w:World) :
    Calls Tryz.prog 121 #[.agg #[.int .u64 ah,.int .u64 al]] w fun e w'=>e=.returned (.bool (zB (val ah al)))∧Up w w':=by
  obtain ⟨a1,a2⟩:=h1;obtain ⟨b1,b2⟩:=h2
  by_cases ha:ah=0
  · by_cases hl:al=0
    · have t1:(ah == 0)=true:=beq_iff_eq.2 ha
      have t2:(al == 0)=true:=beq_iff_eq.2 hl
      have H:=Lib.hid (zB_yes (show val ah al=0 by unfold val;omega))
      clear ha hl
      go_enter Tryz.func121,Tryz.ntmps121
      go_wp2
      go_ret
      refine ⟨by rw [H.out];rfl,?_⟩
      repeat (first | exact Up.refl _ | refine Up.alloc ?_ _ _ | refine Up.setCell ?_ (by first | (simp;done) | (simp;omega) | omega) _ | refine Up.drewN ?_ _ | refine Up.drew ?_)
    · have t1:(ah == 0)=true:=beq_iff_eq.2 ha
      have t2:(al == 0)=false:=beq_eq_false_iff_ne.2 hl
      have H:=Lib.hid (zB_no (show val ah al ≠ 0 by unfold val;omega))
      clear ha hl
      go_enter Tryz.func121,Tryz.ntmps121
      go_wp2
      go_ret
      refine ⟨by rw [H.out];rfl,?_⟩
      repeat (first | exact Up.refl _ | refine Up.alloc ?_ _ _ | refine Up.setCell ?_ (by first | (simp;done) | (simp;omega) | omega) _ | refine Up.drewN ?_ _ | refine Up.drew ?_)
  · have t1:(ah == 0)=false:=beq_eq_false_iff_ne.2 ha
    have H:=Lib.hid (zB_no (show val ah al ≠ 0 by unfold val;omega))
    clear ha
    go_enter Tryz.func121,Tryz.ntmps121
    go_wp2
    go_ret
    refine ⟨by rw [H.out];rfl,?_⟩
    repeat (first | exact Up.refl _ | refine Up.alloc ?_ _ _ | refine Up.setCell ?_ (by first | (simp;done) | (simp;omega) | omega) _ | refine Up.drewN ?_ _ | refine Up.drew ?_)

theorem compare_up (ah al bh bl:Int) (_:Word ah) (h2:Word al) (_:Word bh) (h4:Word bl) (w:World) :
    Calls Tryz.prog 107 #[.agg #[.int .u64 ah,.int .u64 al],.agg #[.int .u64 bh,.int .u64 bl]] w fun e w' =>
      e=.returned (.int .i64 (cmpZ (val ah al) (val bh bl)))∧Up w w':=by
  by_cases ha:ah=bh
  · subst ha
    have H:=Lib.hid (cmpZ_lo (ah:=ah) (al:=al) (bl:=bl))
    by_cases hl:al=bl
    · subst hl
      have H2:=Lib.hid (cmpZ_eq (x:=al) rfl)
      go_enter Tryz.func107,Tryz.ntmps107
      go_wp2
      go_ret
      refine ⟨by rw [H.out,H2.out];rfl,?_⟩
      repeat (first | exact Up.refl _ | refine Up.alloc ?_ _ _ | refine Up.setCell ?_ (by first | (simp;done) | (simp;omega) | omega) _ | refine Up.drewN ?_ _ | refine Up.drew ?_)
    · have t2:(al == bl)=false:=beq_eq_false_iff_ne.2 hl
      clear hl
      go_enter Tryz.func107,Tryz.ntmps107
      go_wp2_with (refine (cmp_u64 _ _ _).mono ?_;rintro e w' ⟨rfl,rfl⟩)
      go_ret
      refine ⟨by rw [H.out];rfl,?_⟩
      repeat (first | exact Up.refl _ | refine Up.alloc ?_ _ _ | refine Up.setCell ?_ (by first | (simp;done) | (simp;omega) | omega) _ | refine Up.drewN ?_ _ | refine Up.drew ?_)
  · have H:=Lib.hid (cmpZ_hi h2 h4 ha)
    have t1:(ah == bh)=false:=beq_eq_false_iff_ne.2 ha
    have t2:(ah != bh)=true:=bne_iff_ne.2 ha
    clear ha
    go_enter Tryz.func107,Tryz.ntmps107
    go_wp2_with (refine (cmp_u64 _ _ _).mono ?_;rintro e w' ⟨rfl,rfl⟩)
    go_ret
    refine ⟨by rw [H.out];rfl,?_⟩
    repeat (first | exact Up.refl _ | refine Up.alloc ?_ _ _ | refine Up.setCell ?_ (by first | (simp;done) | (simp;omega) | omega) _ | refine Up.drewN ?_ _ | refine Up.drew ?_)

theorem rcompare_up (ah al bh bl:Int) (_:Word ah) (h2:Word al) (_:Word bh) (h4:Word bl) (w:World) :
    Calls Tryz.prog 72 #[.agg #[.int .u64 ah,.int .u64 al],.agg #[.int .u64 bh,.int .u64 bl]] w fun e w' =>
      e=.returned (.int .i64 (cmpZ (val ah al) (val bh bl)))∧Up w w':=by
  by_cases ha:ah=bh
  · subst ha
    have H:=Lib.hid (cmpZ_lo (ah:=ah) (al:=al) (bl:=bl))
    by_cases hl:al<bl
    · have H2:=Lib.hid (cmpZ_lt hl)
      have t1:decide (al<bl)=true:=decide_eq_true hl
      clear hl
      go_enter Tryz.func72,Tryz.ntmps72
      go_wp2
      go_ret
      refine ⟨by rw [H.out,H2.out];rfl,?_⟩
      repeat (first | exact Up.refl _ | refine Up.alloc ?_ _ _ | refine Up.setCell ?_ (by first | (simp;done) | (simp;omega) | omega) _ | refine Up.drewN ?_ _ | refine Up.drew ?_)
    · by_cases he:al=bl
      · subst he
        have H2:=Lib.hid (cmpZ_eq (x:=al) rfl)
        clear hl
        go_enter Tryz.func72,Tryz.ntmps72
        go_wp2
        go_ret
        refine ⟨by rw [H.out,H2.out];rfl,?_⟩
        repeat (first | exact Up.refl _ | refine Up.alloc ?_ _ _ | refine Up.setCell ?_ (by first | (simp;done) | (simp;omega) | omega) _ | refine Up.drewN ?_ _ | refine Up.drew ?_)
      · have H2:=Lib.hid (cmpZ_gt (show bl<al by omega))
        have t1:decide (al<bl)=false:=decide_eq_false hl
        have t2:(al == bl)=false:=beq_eq_false_iff_ne.2 he
        clear hl he
        go_enter Tryz.func72,Tryz.ntmps72
        go_wp2
        go_ret
        refine ⟨by rw [H.out,H2.out];rfl,?_⟩
        repeat (first | exact Up.refl _ | refine Up.alloc ?_ _ _ | refine Up.setCell ?_ (by first | (simp;done) | (simp;omega) | omega) _ | refine Up.drewN ?_ _ | refine Up.drew ?_)
  · have H:=Lib.hid (cmpZ_hi h2 h4 ha)
    have t0:(ah == bh)=false:=beq_eq_false_iff_ne.2 ha
    by_cases hl:ah<bh
    · have H2:=Lib.hid (cmpZ_lt hl)
      have t1:decide (ah<bh)=true:=decide_eq_true hl
      clear hl ha
      go_enter Tryz.func72,Tryz.ntmps72
      go_wp2
      go_ret
      refine ⟨by rw [H.out,H2.out];rfl,?_⟩
      repeat (first | exact Up.refl _ | refine Up.alloc ?_ _ _ | refine Up.setCell ?_ (by first | (simp;done) | (simp;omega) | omega) _ | refine Up.drewN ?_ _ | refine Up.drew ?_)
    · have H2:=Lib.hid (cmpZ_gt (show bh<ah by omega))
      have t1:decide (ah<bh)=false:=decide_eq_false hl
      clear hl ha
      go_enter Tryz.func72,Tryz.ntmps72
      go_wp2
      go_ret
      refine ⟨by rw [H.out,H2.out];rfl,?_⟩
      repeat (first | exact Up.refl _ | refine Up.alloc ?_ _ _ | refine Up.setCell ?_ (by first | (simp;done) | (simp;omega) | omega) _ | refine Up.drewN ?_ _ | refine Up.drew ?_)

end Go.Proofs.YtafkoddgefcpnaaGreat
