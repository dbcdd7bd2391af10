/- What ratio.Valid, bothValid and the reference's Valid return. -/
import Derived.Test.YtafkoddgefcpnaaGreatRows
import Derived.Test.YtafkoddgefcpnaaGreatZNumDivq46
import Derived.Test.YtafkoddgefcpnaaGreatZNumGcdq121
import Derived.Test.YtafkoddgefcpnaaGreatZWGcdq117
namespace Go.Proofs.YtafkoddgefcpnaaGreat
open Go.RowKit

theorem valid_up (n d:Int) (_:In n) (hd:In d) (w:World) :
    Calls Tryz.prog 54 #[.agg #[.int .i64 n,.int .i64 d]] w fun e w'=>e=.returned (.bool (validB n d))∧Up w w':=by
  by_cases h:d<1
  · have t:decide (d<1)=true:=decide_eq_true h
    have H:=Lib.hid (validB_low (n:=n) h)
    clear h
    go_enter Tryz.func54,Tryz.ntmps54
    go_wp2
    go_ret
    refine ⟨by rw [H.out];rfl,?_⟩
    repeat (first | exact Up.refl _ | refine Up.alloc ?_ _ _ | refine Up.setCell ?_ (by first | (simp;done) | (simp;omega) | omega) _ | refine Up.drewN ?_ _ | refine Up.drew ?_)
  · have t:decide (d<1)=false:=decide_eq_false h
    have e1:rests n d=rest n d:=rests_yes (by omega)
    have hr:=rest_in (a:=n) hd (show d ≠ 0 by omega)
    have rp:=rest_pos n d (by omega)
    have HM:=Lib.hid (fun W=>mod_any n d hd W)
    have H:(gcds (rest n d) d == 1)=validB n d:=by
      rw [gcds_pos (by omega) (by omega),gcd_rest n d (by omega),validB_eq (by omega)]
      rw [Bool.eq_iff_iff];simp;omega
    have H:=Lib.hid H
    have HG:=Lib.hid (fun W=>gcd_any (rest n d) d hr hd W)
    rw [e1] at HM
    clear h hr rp e1
    generalize rest n d=r at *
    go_enter Tryz.func54,Tryz.ntmps54
    go_wp2_with fail
    refine (HM.out _).mono ?_
    rintro e w' ⟨rfl,rfl⟩
    go_wp2_with fail
    refine (HG.out _).mono ?_
    rintro e w1 ⟨rfl,k,rfl⟩
    go_wp2
    go_ret
    refine ⟨by rw [← H.out];rfl,?_⟩
    repeat (first | exact Up.refl _ | refine Up.alloc ?_ _ _ | refine Up.setCell ?_ (by first | (simp;done) | (simp;omega) | omega) _ | refine Up.drewN ?_ _ | refine Up.drew ?_)

theorem bothValid_up (n d m c:Int) (hn:In n) (hd:In d) (hm:In m) (hc:In c) (w:World) :
    Calls Tryz.prog 90 #[.agg #[.int .i64 n,.int .i64 d],.agg #[.int .i64 m,.int .i64 c]] w fun e w'=>e=.returned (.bool (validB n d && validB m c))∧Up w w':=by
  have H1:=Lib.hid (fun W=>valid_up n d hn hd W)
  have H2:=Lib.hid (fun W=>valid_up m c hm hc W)
  generalize validB n d=p at *
  generalize validB m c=q at *
  cases p
  · go_enter Tryz.func90,Tryz.ntmps90
    go_wp2_with fail
    refine (H1.out _).mono ?_
    rintro e w1 ⟨rfl,hu1⟩
    obtain ⟨hc1,hz1⟩:=hu1.cells
    have hs1:=hu1.size
    try simp at hs1
    try unfold got2
    have p1_0:w.heap.size<w1.heap.size:=by omega
    have p1_1:w.heap.size+1<w1.heap.size:=by omega
    go_wp2_with fail
    go_ret
    refine ⟨rfl,?_⟩
    repeat (first | exact Up.refl _ | refine Up.trans ?_ hu1 | refine Up.alloc ?_ _ _ | refine Up.setCell ?_ (by first | (simp;done) | (simp;omega) | omega) _ | refine Up.drewN ?_ _ | refine Up.drew ?_)
  · go_enter Tryz.func90,Tryz.ntmps90
    go_wp2_with fail
    refine (H1.out _).mono ?_
    rintro e w1 ⟨rfl,hu1⟩
    obtain ⟨hc1,hz1⟩:=hu1.cells
    have hs1:=hu1.size
    try simp at hs1
    try unfold got2
    have p1_0:w.heap.size<w1.heap.size:=by omega
    have p1_1:w.heap.size+1<w1.heap.size:=by omega
    go_wp2_with fail
    refine (H2.out _).mono ?_
    rintro e w2 ⟨rfl,hu2⟩
    obtain ⟨hc2,hz2⟩:=hu2.cells
    have hs2:=hu2.size
    try simp at hs2
    try unfold got2
    go_wp2_with fail
    go_ret
    refine ⟨rfl,?_⟩
    repeat (first | exact Up.refl _ | refine Up.trans ?_ hu2 | refine Up.trans ?_ hu1 | refine Up.alloc ?_ _ _ | refine Up.setCell ?_ (by first | (simp;done) | (simp;omega) | omega) _ | refine Up.drewN ?_ _ | refine Up.drew ?_)

end Go.Proofs.YtafkoddgefcpnaaGreat
