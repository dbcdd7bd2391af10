/- What the sums, differences and comparisons of package wide, and of its reference, return. -/
import Derived.Test.YtafkoddgefcpnaaGreatRows
import Derived.Test.YtafkoddgefcpnaaGreatZWMathq1
namespace Go.Proofs.YtafkoddgefcpnaaGreat
open Go.RowKit

theorem add_up (ah al bh bl:Int) (h1:Word ah) (h2:Word al) (h3:Word bh) (h4:Word bl) (w:World) :
    Calls Tryz.prog 93 #[.agg #[.int .u64 ah,.int .u64 al],.agg #[.int .u64 bh,.int .u64 bl]] w fun e w' =>
      e=got2 (fit2 (val ah al+val bh bl)) (fits2 (val ah al+val bh bl))∧Up w w':=by
  obtain ⟨a1,a2⟩:=h1;obtain ⟨b1,b2⟩:=h2;obtain ⟨c1,c2⟩:=h3;obtain ⟨d1,d2⟩:=h4
  have k0:0≤(al+bl) / 18446744073709551616:=by omega
  have k1:(al+bl) / 18446744073709551616≤1:=by omega
  by_cases hf:(ah+bh+(al+bl) / 18446744073709551616) / 18446744073709551616=0
  · have t:((ah+bh+(al+bl) / 18446744073709551616) / 18446744073709551616 != 0)=false:=by rw [hf];rfl
    have hi:In2 (val ah al+val bh bl):=by unfold val;exact ⟨by omega,by omega⟩
    have H1:=Lib.hid (fit2_yes hi)
    have H2:=Lib.hid (fits2_yes hi)
    have H3:=Lib.hid (show hiZ (val ah al+val bh bl)=(ah+bh+(al+bl) / 18446744073709551616) % 18446744073709551616 by unfold hiZ val;omega)
    have H4:=Lib.hid (show loZ (val ah al+val bh bl)=(al+bl) % 18446744073709551616 by unfold loZ val;omega)
    clear hi hf
    go_enter Tryz.func93,Tryz.ntmps93
    go_wp2_with (first | simp only [add64_0 al bl b1 d1] | simp only [add64 ah bh _ a1 c1 k0 k1])
    refine bodyPost_ret (v:=.tuple #[.agg #[.int .u64 ((ah+bh+(al+bl) / 18446744073709551616) % 18446744073709551616),.int .u64 ((al+bl) % 18446744073709551616)],.bool true]) (by simp [results,Tryz.results93,go_sem]) rfl ⟨?_,?_⟩
    · rw [H1.out,H2.out];unfold got2;rw [H3.out,H4.out]
    · repeat (first | exact Up.refl _ | refine Up.alloc ?_ _ _ | refine Up.setCell ?_ (by first | (simp;done) | (simp;omega) | omega) _ | refine Up.drewN ?_ _ | refine Up.drew ?_)
  · have t:((ah+bh+(al+bl) / 18446744073709551616) / 18446744073709551616 != 0)=true:=bne_iff_ne.2 hf
    have hi:¬ In2 (val ah al+val bh bl):=by unfold In2 val;omega
    have H1:=Lib.hid (fit2_no hi)
    have H2:=Lib.hid (fits2_no hi)
    clear hi hf
    go_enter Tryz.func93,Tryz.ntmps93
    go_wp2_with (first | simp only [add64_0 al bl b1 d1] | simp only [add64 ah bh _ a1 c1 k0 k1])
    refine bodyPost_ret (v:=.tuple #[.agg #[.int .u64 0,.int .u64 0],.bool false]) (by simp [results,Tryz.results93,go_sem]) rfl ⟨?_,?_⟩
    · rw [H1.out,H2.out];rfl
    · repeat (first | exact Up.refl _ | refine Up.alloc ?_ _ _ | refine Up.setCell ?_ (by first | (simp;done) | (simp;omega) | omega) _ | refine Up.drewN ?_ _ | refine Up.drew ?_)

theorem sub_up (ah al bh bl:Int) (h1:Word ah) (h2:Word al) (h3:Word bh) (h4:Word bl) (w:World) :
    Calls Tryz.prog 95 #[.agg #[.int .u64 ah,.int .u64 al],.agg #[.int .u64 bh,.int .u64 bl]] w fun e w' =>
      e=got2 (fit2 (val ah al - val bh bl)) (fits2 (val ah al - val bh bl))∧Up w w':=by
  obtain ⟨a1,a2⟩:=h1;obtain ⟨b1,b2⟩:=h2;obtain ⟨c1,c2⟩:=h3;obtain ⟨d1,d2⟩:=h4
  obtain ⟨k0,k1⟩:=bor_01 al bl
  by_cases hf:ah<bh+bor al bl
  · have t:(bor ah (bh+bor al bl) != 0)=true:=by unfold bor;rw [if_pos (by unfold bor at hf;exact hf)];rfl
    have hi:¬ In2 (val ah al - val bh bl):=by
      unfold In2 val;unfold bor at hf;split at hf <;> omega
    have H1:=Lib.hid (fit2_no hi)
    have H2:=Lib.hid (fits2_no hi)
    clear hi hf
    go_enter Tryz.func95,Tryz.ntmps95
    go_wp2_with (first | simp only [sub64_0 al bl b1 d1 d2] | simp only [sub64 ah bh _ a1 c1 c2 k0 k1])
    refine bodyPost_ret (v:=.tuple #[.agg #[.int .u64 0,.int .u64 0],.bool false]) (by simp [results,Tryz.results95,go_sem]) rfl ⟨?_,?_⟩
    · rw [H1.out,H2.out];rfl
    · repeat (first | exact Up.refl _ | refine Up.alloc ?_ _ _ | refine Up.setCell ?_ (by first | (simp;done) | (simp;omega) | omega) _ | refine Up.drewN ?_ _ | refine Up.drew ?_)
  · have t:(bor ah (bh+bor al bl) != 0)=false:=by unfold bor;rw [if_neg (by unfold bor at hf;exact hf)];rfl
    have hi:In2 (val ah al - val bh bl):=by
      unfold In2 val;unfold bor at hf;split at hf <;> omega
    have H1:=Lib.hid (fit2_yes hi)
    have H2:=Lib.hid (fits2_yes hi)
    have H3:=Lib.hid (show hiZ (val ah al - val bh bl)=(ah - bh - bor al bl) % 18446744073709551616 by
      have hh:(al<bl∧bor al bl=1)∨(¬ al<bl∧bor al bl=0):=by
        unfold bor;by_cases h:al<bl
        · exact Or.inl ⟨h,if_pos h⟩
        · exact Or.inr ⟨h,if_neg h⟩
      unfold hiZ val;omega)
    have H4:=Lib.hid (show loZ (val ah al - val bh bl)=(al - bl) % 18446744073709551616 by unfold loZ val;omega)
    clear hi hf
    go_enter Tryz.func95,Tryz.ntmps95
    go_wp2_with (first | simp only [sub64_0 al bl b1 d1 d2] | simp only [sub64 ah bh _ a1 c1 c2 k0 k1])
    refine bodyPost_ret (v:=.tuple #[.agg #[.int .u64 ((ah - bh - bor al bl) % 18446744073709551616),.int .u64 ((al - bl) % 18446744073709551616)],.bool true]) (by simp [results,Tryz.results95,go_sem]) rfl ⟨?_,?_⟩
    · rw [H1.out,H2.out];unfold got2;rw [H3.out,H4.out]
    · repeat (first | exact Up.refl _ | refine Up.alloc ?_ _ _ | refine Up.setCell ?_ (by first | (simp;done) | (simp;omega) | omega) _ | refine Up.drewN ?_ _ | refine Up.drew ?_)

/-! ### Comparisons -/
/-- -1, 0 or 1. -/
def cmpZ (x y:Int):Int:=if x<y then -1 else if x=y then 0 else 1
theorem cmpZ_lt {x y:Int} (h:x<y):cmpZ x y=-1:=by unfold cmpZ;rw [if_pos h]
theorem cmpZ_eq {x y:Int} (h:x=y):cmpZ x y=0:=by unfold cmpZ;rw [if_neg (by omega),if_pos h]
theorem cmpZ_gt {x y:Int} (h:y<x):cmpZ x y=1:=by unfold cmpZ;rw [if_neg (by omega),if_neg (by omega)]
theorem cmpZ_bound (x y:Int):-1≤cmpZ x y∧cmpZ x y≤1:=by unfold cmpZ;split;decide;split <;> decide
theorem cmpZ_neg (x y:Int):(cmpZ x y<0) ↔ x<y:=by unfold cmpZ;repeat (split <;> try omega)

theorem nan_u64 (x:Int) (w:World):Calls Tryz.prog 125 #[.int .u64 x] w fun e w'=>e=.returned (.bool false)∧w=w':=by
  go_enter Tryz.func125,Tryz.ntmps125
  go_wp2
  go_ret
  exact ⟨by simp,rfl⟩
theorem cmp_u64 (x y:Int) (w:World):Calls Tryz.prog 120 #[.int .u64 x,.int .u64 y] w fun e w'=>e=.returned (.int .i64 (cmpZ x y))∧w=w':=by
  by_cases hl:x<y
  · have t1:decide (x<y)=true:=decide_eq_true hl
    have H:=Lib.hid (cmpZ_lt hl)
    clear hl
    go_enter Tryz.func120,Tryz.ntmps120
    go_wp2_with (refine (nan_u64 _ _).mono ?_;rintro e w' ⟨rfl,rfl⟩)
    go_ret
    exact ⟨by rw [H.out];rfl,rfl⟩
  · have t1:decide (x<y)=false:=decide_eq_false hl
    by_cases hg:y<x
    · have t2:decide (y<x)=true:=decide_eq_true hg
      have H:=Lib.hid (cmpZ_gt hg)
      clear hl hg
      go_enter Tryz.func120,Tryz.ntmps120
      go_wp2_with (refine (nan_u64 _ _).mono ?_;rintro e w' ⟨rfl,rfl⟩)
      go_ret
      exact ⟨by rw [H.out];rfl,rfl⟩
    · have t2:decide (y<x)=false:=decide_eq_false hg
      have H:=Lib.hid (cmpZ_eq (show x=y by omega))
      clear hl hg
      go_enter Tryz.func120,Tryz.ntmps120
      go_wp2_with (refine (nan_u64 _ _).mono ?_;rintro e w' ⟨rfl,rfl⟩)
      go_ret
      exact ⟨by rw [H.out];rfl,rfl⟩

theorem nan_i64 (x:Int) (w:World):Calls Tryz.prog 124 #[.int .i64 x] w fun e w'=>e=.returned (.bool false)∧w=w':=by
  go_enter Tryz.func124,Tryz.ntmps124
  go_wp2
  go_ret
  exact ⟨by simp,rfl⟩
theorem cmp_i64 (x y:Int) (w:World):Calls Tryz.prog 118 #[.int .i64 x,.int .i64 y] w fun e w'=>e=.returned (.int .i64 (cmpZ x y))∧w=w':=by
  by_cases hl:x<y
  · have t1:decide (x<y)=true:=decide_eq_true hl
    have H:=Lib.hid (cmpZ_lt hl)
    clear hl
    go_enter Tryz.func118,Tryz.ntmps118
    go_wp2_with (refine (nan_i64 _ _).mono ?_;rintro e w' ⟨rfl,rfl⟩)
    go_ret
    exact ⟨by rw [H.out];rfl,rfl⟩
  · have t1:decide (x<y)=false:=decide_eq_false hl
    by_cases hg:y<x
    · have t2:decide (y<x)=true:=decide_eq_true hg
      have H:=Lib.hid (cmpZ_gt hg)
      clear hl hg
      go_enter Tryz.func118,Tryz.ntmps118
      go_wp2_with (refine (nan_i64 _ _).mono ?_;rintro e w' ⟨rfl,rfl⟩)
      go_ret
      exact ⟨by rw [H.out];rfl,rfl⟩
    · have t2:decide (y<x)=false:=decide_eq_false hg
      have H:=Lib.hid (cmpZ_eq (show x=y by omega))
      clear hl hg
      go_enter Tryz.func118,Tryz.ntmps118
      go_wp2_with (refine (nan_i64 _ _).mono ?_;rintro e w' ⟨rfl,rfl⟩)
      go_ret
      exact ⟨by rw [H.out];rfl,rfl⟩

theorem nan_i64b (x:Int) (w:World):Calls Tryz.prog 119 #[.int .i64 x] w fun e w'=>e=.returned (.bool false)∧w=w':=by
  go_enter Tryz.func119,Tryz.ntmps119
  go_wp2
  go_ret
  exact ⟨by simp,rfl⟩
theorem cmp_i64b (x y:Int) (w:World):Calls Tryz.prog 106 #[.int .i64 x,.int .i64 y] w fun e w'=>e=.returned (.int .i64 (cmpZ x y))∧w=w':=by
  by_cases hl:x<y
  · have t1:decide (x<y)=true:=decide_eq_true hl
    have H:=Lib.hid (cmpZ_lt hl)
    clear hl
    go_enter Tryz.func106,Tryz.ntmps106
    go_wp2_with (refine (nan_i64b _ _).mono ?_;rintro e w' ⟨rfl,rfl⟩)
    go_ret
    exact ⟨by rw [H.out];rfl,rfl⟩
  · have t1:decide (x<y)=false:=decide_eq_false hl
    by_cases hg:y<x
    · have t2:decide (y<x)=true:=decide_eq_true hg
      have H:=Lib.hid (cmpZ_gt hg)
      clear hl hg
      go_enter Tryz.func106,Tryz.ntmps106
      go_wp2_with (refine (nan_i64b _ _).mono ?_;rintro e w' ⟨rfl,rfl⟩)
      go_ret
      exact ⟨by rw [H.out];rfl,rfl⟩
    · have t2:decide (y<x)=false:=decide_eq_false hg
      have H:=Lib.hid (cmpZ_eq (show x=y by omega))
      clear hl hg
      go_enter Tryz.func106,Tryz.ntmps106
      go_wp2_with (refine (nan_i64b _ _).mono ?_;rintro e w' ⟨rfl,rfl⟩)
      go_ret
      exact ⟨by rw [H.out];rfl,rfl⟩

end Go.Proofs.YtafkoddgefcpnaaGreat
