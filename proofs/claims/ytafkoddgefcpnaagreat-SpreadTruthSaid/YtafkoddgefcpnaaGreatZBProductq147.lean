/- What product of package bounds returns. -/
import Derived.Test.YtafkoddgefcpnaaGreatRows
import Derived.Test.YtafkoddgefcpnaaGreatZBKeepq12
import Derived.Test.YtafkoddgefcpnaaGreatZWMulMq50
namespace Go.Proofs.YtafkoddgefcpnaaGreat
open Go.RowKit

theorem val_0 (p:Int):val 0 p=p:=by unfold val;omega
theorem add_w (v p:Int) (hv:In2 v) (hp:Word p) (h:In2 (v+p)) (w:World) :
    Calls Tryz.prog 93 #[.agg #[.int .u64 (hiZ v),.int .u64 (loZ v)],.agg #[.int .u64 0,.int .u64 p]] w fun e w'=>e=got2 (v+p) true∧Up w w':=by
  have g:=add_up (hiZ v) (loZ v) 0 p (hiZ_word hv) (loZ_word v) word_0 hp w
  rw [val_hilo,val_0,fit2_yes h,fits2_yes h] at g
  exact g

theorem Pr.far {w w1:World} {p0 p1 p2 p3 bh bl:Int} {g o:Nat} {v:Value} (h:Pr w w1 p0 p1 p2 p3 bh bl) (hg:w.heap.size+1+1+1<g):Pr w (w1.setCell ⟨g,o,none⟩ v) p0 p1 p2 p3 bh bl :=
  ⟨h.up.setCell (by show w.heap.size≤g;omega) _,(cell_far (by show g ≠ _;omega)).trans h.b0,(cell_far (by show g ≠ _;omega)).trans h.b1,(cell_far (by show g ≠ _;omega)).trans h.r0,(cell_far (by show g ≠ _;omega)).trans h.r1,(cell_far (by show g ≠ _;omega)).trans h.r2,(cell_far (by show g ≠ _;omega)).trans h.r3,(cell_far (by show g ≠ _;omega)).trans h.c0,(cell_far (by show g ≠ _;omega)).trans h.c1,(cell_far (by show g ≠ _;omega)).trans h.c2,(cell_far (by show g ≠ _;omega)).trans h.c3⟩
theorem Pr.set0 {w w1:World} {p0 p1 p2 p3 bh bl v:Int} (h:Pr w w1 p0 p1 p2 p3 bh bl):Pr w (w1.setCell ⟨w.heap.size+1+1+1,0,none⟩ (.int .u64 v)) v p1 p2 p3 bh bl :=
  ⟨h.up.setCell (by show w.heap.size≤w.heap.size+1+1+1;omega) _,(cell_far (by show w.heap.size+1+1+1 ≠ _;omega)).trans h.b0,(cell_far (by show w.heap.size+1+1+1 ≠ _;omega)).trans h.b1,(cell_far (by show w.heap.size+1+1+1 ≠ _;omega)).trans h.r0,(cell_far (by show w.heap.size+1+1+1 ≠ _;omega)).trans h.r1,(cell_far (by show w.heap.size+1+1+1 ≠ _;omega)).trans h.r2,(cell_far (by show w.heap.size+1+1+1 ≠ _;omega)).trans h.r3,by rw [cell_set h.c0];rfl,by rw [cell_set h.c1];rfl,by rw [cell_set h.c2];rfl,by rw [cell_set h.c3];rfl⟩
theorem Pr.set1 {w w1:World} {p0 p1 p2 p3 bh bl v:Int} (h:Pr w w1 p0 p1 p2 p3 bh bl):Pr w (w1.setCell ⟨w.heap.size+1+1+1,1,none⟩ (.int .u64 v)) p0 v p2 p3 bh bl :=
  ⟨h.up.setCell (by show w.heap.size≤w.heap.size+1+1+1;omega) _,(cell_far (by show w.heap.size+1+1+1 ≠ _;omega)).trans h.b0,(cell_far (by show w.heap.size+1+1+1 ≠ _;omega)).trans h.b1,(cell_far (by show w.heap.size+1+1+1 ≠ _;omega)).trans h.r0,(cell_far (by show w.heap.size+1+1+1 ≠ _;omega)).trans h.r1,(cell_far (by show w.heap.size+1+1+1 ≠ _;omega)).trans h.r2,(cell_far (by show w.heap.size+1+1+1 ≠ _;omega)).trans h.r3,by rw [cell_set h.c0];rfl,by rw [cell_set h.c1];rfl,by rw [cell_set h.c2];rfl,by rw [cell_set h.c3];rfl⟩
theorem Pr.set2 {w w1:World} {p0 p1 p2 p3 bh bl v:Int} (h:Pr w w1 p0 p1 p2 p3 bh bl):Pr w (w1.setCell ⟨w.heap.size+1+1+1,2,none⟩ (.int .u64 v)) p0 p1 v p3 bh bl :=
  ⟨h.up.setCell (by show w.heap.size≤w.heap.size+1+1+1;omega) _,(cell_far (by show w.heap.size+1+1+1 ≠ _;omega)).trans h.b0,(cell_far (by show w.heap.size+1+1+1 ≠ _;omega)).trans h.b1,(cell_far (by show w.heap.size+1+1+1 ≠ _;omega)).trans h.r0,(cell_far (by show w.heap.size+1+1+1 ≠ _;omega)).trans h.r1,(cell_far (by show w.heap.size+1+1+1 ≠ _;omega)).trans h.r2,(cell_far (by show w.heap.size+1+1+1 ≠ _;omega)).trans h.r3,by rw [cell_set h.c0];rfl,by rw [cell_set h.c1];rfl,by rw [cell_set h.c2];rfl,by rw [cell_set h.c3];rfl⟩
theorem Pr.set3 {w w1:World} {p0 p1 p2 p3 bh bl v:Int} (h:Pr w w1 p0 p1 p2 p3 bh bl):Pr w (w1.setCell ⟨w.heap.size+1+1+1,3,none⟩ (.int .u64 v)) p0 p1 p2 v bh bl :=
  ⟨h.up.setCell (by show w.heap.size≤w.heap.size+1+1+1;omega) _,(cell_far (by show w.heap.size+1+1+1 ≠ _;omega)).trans h.b0,(cell_far (by show w.heap.size+1+1+1 ≠ _;omega)).trans h.b1,(cell_far (by show w.heap.size+1+1+1 ≠ _;omega)).trans h.r0,(cell_far (by show w.heap.size+1+1+1 ≠ _;omega)).trans h.r1,(cell_far (by show w.heap.size+1+1+1 ≠ _;omega)).trans h.r2,(cell_far (by show w.heap.size+1+1+1 ≠ _;omega)).trans h.r3,by rw [cell_set h.c0];rfl,by rw [cell_set h.c1];rfl,by rw [cell_set h.c2];rfl,by rw [cell_set h.c3];rfl⟩
theorem pkeep {w w1 w2:World} {p0 p1 p2 p3 bh bl:Int} {o:Nat} {x:Value} (hu:Hid (Up w1 w2)) (h:Pr w w1 p0 p1 p2 p3 bh bl∧w1.cell? ⟨w.heap.size+1+1+1,o,none⟩=some x) :
    Pr w w2 p0 p1 p2 p3 bh bl∧w2.cell? ⟨w.heap.size+1+1+1,o,none⟩=some x:=⟨h.1.keep hu.out,hu.out.keep _ _ _ h.2⟩
theorem pset {w w1:World} {p0 p1 p2 p3 bh bl:Int} {o b q:Nat} {x v:Value} (h:Pr w w1 p0 p1 p2 p3 bh bl∧w1.cell? ⟨w.heap.size+1+1+1,o,none⟩=some x) (hb:w.heap.size+1+1+1<b) :
    Pr w (w1.setCell ⟨b,q,none⟩ v) p0 p1 p2 p3 bh bl∧(w1.setCell ⟨b,q,none⟩ v).cell? ⟨w.heap.size+1+1+1,o,none⟩=some x :=
  ⟨h.1.far hb,(cell_far (by show b ≠ _;omega)).trans h.2⟩

set_option maxHeartbeats 16000000 in
set_option maxRecDepth 100000 in
theorem product4_up (ah al bh bl:Int) (h1:Word ah) (h2:Word al) (h3:Word bh) (h4:Word bl) (w:World) :
    Calls Tryz.prog 58 #[.agg #[.int .u64 ah,.int .u64 al],.agg #[.int .u64 bh,.int .u64 bl]] w fun e w' =>
      e=.returned (.agg #[.int .u64 (g0 (val ah al * val bh bl)),.int .u64 (g1 (val ah al * val bh bl)),.int .u64 (g2 (val ah al * val bh bl)),.int .u64 (g3 (val ah al * val bh bl))])∧Up w w':=by
  obtain ⟨f1,f2,f3⟩:=step_fits h2 h4 word_0 word_0
  have H00:=Lib.hid (fun W=>product_up al bl h2 h4 W)
  have A00:=Lib.hid (fun W=>add_w (al * bl) (0) f1 word_0 f2 W)
  have B00:=Lib.hid (fun W=>add_w (al * bl+0) (0) f2 word_0 f3 W)
  obtain ⟨t00,E00⟩:∃ t,t=al * bl+0+0:=⟨_,rfl⟩
  rw [← E00] at B00 f3
  generalize al * bl+0=s00 at A00 B00
  generalize al * bl=m00 at H00 A00
  have k00:=hiZ_word f3
  have j00:=loZ_word t00
  clear f1 f2 f3
  obtain ⟨f1,f2,f3⟩:=step_fits h2 h3 word_0 k00
  have H01:=Lib.hid (fun W=>product_up al bh h2 h3 W)
  have A01:=Lib.hid (fun W=>add_w (al * bh) (0) f1 word_0 f2 W)
  have B01:=Lib.hid (fun W=>add_w (al * bh+0) (hiZ t00) f2 k00 f3 W)
  obtain ⟨t01,E01⟩:∃ t,t=al * bh+0+hiZ t00:=⟨_,rfl⟩
  rw [← E01] at B01 f3
  generalize al * bh+0=s01 at A01 B01
  generalize al * bh=m01 at H01 A01
  have k01:=hiZ_word f3
  have j01:=loZ_word t01
  clear f1 f2 f3
  obtain ⟨f1,f2,f3⟩:=step_fits h1 h4 j01 word_0
  have H10:=Lib.hid (fun W=>product_up ah bl h1 h4 W)
  have A10:=Lib.hid (fun W=>add_w (ah * bl) (loZ t01) f1 j01 f2 W)
  have B10:=Lib.hid (fun W=>add_w (ah * bl+loZ t01) (0) f2 word_0 f3 W)
  obtain ⟨t10,E10⟩:∃ t,t=ah * bl+loZ t01+0:=⟨_,rfl⟩
  rw [← E10] at B10 f3
  generalize ah * bl+loZ t01=s10 at A10 B10
  generalize ah * bl=m10 at H10 A10
  have k10:=hiZ_word f3
  have j10:=loZ_word t10
  clear f1 f2 f3
  obtain ⟨f1,f2,f3⟩:=step_fits h1 h3 k01 k10
  have H11:=Lib.hid (fun W=>product_up ah bh h1 h3 W)
  have A11:=Lib.hid (fun W=>add_w (ah * bh) (hiZ t01) f1 k01 f2 W)
  have B11:=Lib.hid (fun W=>add_w (ah * bh+hiZ t01) (hiZ t10) f2 k10 f3 W)
  obtain ⟨t11,E11⟩:∃ t,t=ah * bh+hiZ t01+hiZ t10:=⟨_,rfl⟩
  rw [← E11] at B11 f3
  generalize ah * bh+hiZ t01=s11 at A11 B11
  generalize ah * bh=m11 at H11 A11
  have k11:=hiZ_word f3
  have j11:=loZ_word t11
  clear f1 f2 f3
  have HV:=prod_rows E00 E01 E10 E11
  obtain ⟨G0,G1,G2,G3⟩:=g_W4 j00 j10 j11 k11 HV
  rw [← G0,← G1,← G2,← G3]
  clear h1 h2 h3 h4 k00 k01 k10 k11 j00 j01 j10 j11 HV G0 G1 G2 G3 E00 E01 E10 E11
  have ia0:∀ W:World,(Instr.index 122 (.agg #[.int .u64 al,.int .u64 ah]) (.int .i64 0)).run Tryz.prog W=.ok (.int .u64 al) W:=fun _=>by kernel_rfl
  have ia1:∀ W:World,(Instr.index 122 (.agg #[.int .u64 al,.int .u64 ah]) (.int .i64 1)).run Tryz.prog W=.ok (.int .u64 ah) W:=fun _=>by kernel_rfl
  have ib0:∀ W:World,(Instr.index 122 (.agg #[.int .u64 bl,.int .u64 bh]) (.int .i64 0)).run Tryz.prog W=.ok (.int .u64 bl) W:=fun _=>by kernel_rfl
  have ib1:∀ W:World,(Instr.index 122 (.agg #[.int .u64 bl,.int .u64 bh]) (.int .i64 1)).run Tryz.prog W=.ok (.int .u64 bh) W:=fun _=>by kernel_rfl
  have wr0:IntKind.i64.wrap 0=0:=by decide
  have wr1:IntKind.i64.wrap 1=1:=by decide
  have wr2:IntKind.i64.wrap 2=2:=by decide
  have wr00:IntKind.i64.wrap (0+0)=0:=by decide
  have wr01:IntKind.i64.wrap (0+1)=1:=by decide
  have wr10:IntKind.i64.wrap (1+0)=1:=by decide
  have wr11:IntKind.i64.wrap (1+1)=2:=by decide
  go_enter Tryz.func58,Tryz.ntmps58
  go_wp2_with fail
  go_loopg [18] 2 (fun k u18 wr=>(k=2∧u18=.int .i64 0∧Pr w wr 0 0 0 0 bh bl)∨(k=1∧u18=.int .i64 1∧Pr w wr (loZ t00) (loZ t01) (hiZ t01) 0 bh bl)∨(k=0∧u18=.int .i64 2∧Pr w wr (loZ t00) (loZ t10) (loZ t11) (hiZ t11) bh bl))
  case atStart =>
    refine Or.inl ⟨rfl,rfl,?_⟩
    refine ⟨?_,by simp [go_sem],by simp [go_sem],by simp [go_sem],by simp [go_sem],by simp [go_sem],by simp [go_sem],by simp [go_sem],by simp [go_sem],by simp [go_sem],by simp [go_sem]⟩
    repeat (first | exact Up.refl _ | refine Up.alloc ?_ _ _ | refine Up.setCell ?_ (by first | (simp;done) | (simp;omega) | omega) _ | refine Up.drewN ?_ _ | refine Up.drew ?_)
  case round =>
    rcases hrel with ⟨rfl,rfl,hP⟩ | ⟨rfl,rfl,hP⟩ | ⟨rfl,rfl,hP⟩
    · have HP:=Lib.hid hP
      have b0:=hP.b0
      have b1:=hP.b1
      clear hP
      go_wp2_with fail
      go_loopg [8,27] 2 (fun k u8 u27 wr=>(k=2∧u27=.int .i64 0∧u8=.int .u64 (0)∧Pr w wr 0 0 0 0 bh bl)∨(k=1∧u27=.int .i64 1∧u8=.int .u64 (hiZ t00)∧Pr w wr (loZ t00) 0 0 0 bh bl)∨(k=0∧u27=.int .i64 2∧u8=.int .u64 (hiZ t01)∧Pr w wr (loZ t00) (loZ t01) 0 0 bh bl))
      case atStart =>
        refine Or.inl ⟨rfl,rfl,rfl,HP.out.keep ?_⟩
        repeat (first | exact Up.refl _ | refine Up.alloc ?_ _ _ | refine Up.setCell ?_ (by first | (simp;done) | (simp;omega) | omega) _ | refine Up.drewN ?_ _ | refine Up.drew ?_)
      case round =>
        rcases hrel with ⟨rfl,rfl,rfl,hP⟩ | ⟨rfl,rfl,rfl,hP⟩ | ⟨rfl,rfl,rfl,hP⟩
        · have HP1:=Lib.hid hP
          have ci:=hP.c0
          have HB:=Lib.hid (World.block_lt_of_cell? _ _ hP.c0)
          have hb:w.heap.size+1+1+1<wr.heap.size:=HB.out
          clear hP
          go_upto_region 9 with fail
          go_cut [11] (fun t wx=>∃ g:Nat,w.heap.size+1+1+1<g∧t=.pointer (some ⟨g,0,none⟩)∧wx.cell? ⟨g,0,none⟩=some (.int .u64 (hiZ s00))∧wx.cell? ⟨g,1,none⟩=some (.int .u64 (loZ s00))∧Pr w wx 0 0 0 0 bh bl)
          case first =>
            go_region_held3 (fun w'=>Pr w w' 0 0 0 0 bh bl∧w'.cell? ⟨w.heap.size+1+1+1,0,none⟩=some (.int .u64 (0)))
              (first | (with_reducible exact pkeep (by assumption) (by assumption)) | (repeat (first | (with_reducible assumption) | (with_reducible exact Hid.out (by assumption)) | (with_reducible exact ⟨HP1.out,ci⟩) | (with_reducible refine pkeep (Lib.hid ((Up.refl _).alloc _ _)) ?_) | (with_reducible refine pkeep (Lib.hid (Up.refl _).drew) ?_) | (with_reducible refine pset ?_ (by omega)))))
              (first
                | (go_at_call 56;(with_reducible refine (H00.out _).mono ?_);rintro e w1 ⟨rfl,hu1⟩;have HU1:=Lib.hid hu1;have HS1:=Lib.hid (pkeep HU1 (by assumption));obtain ⟨hc1,hz1⟩:=hu1.cells;have hs1:=hu1.size;(try simp at hs1);clear hu1;(try unfold got2);(try (have p1_0:wr.heap.size<w1.heap.size:=by omega));(try (have p1_1:w2.heap.size<w1.heap.size:=by omega)))
                | (go_at_call 60;(with_reducible refine (of_up (0) _).mono ?_);rintro e w2 ⟨rfl,hu2⟩;have HU2:=Lib.hid hu2;have HS2:=Lib.hid (pkeep HU2 (by assumption));obtain ⟨hc2,hz2⟩:=hu2.cells;have hs2:=hu2.size;(try simp at hs2);clear hu2;(try unfold got2);(try (have p2_0:wr.heap.size<w2.heap.size:=by omega));(try (have p2_1:w1.heap.size<w2.heap.size:=by omega)))
                | (go_at_call 93;(with_reducible refine (A00.out _).mono ?_);rintro e w3 ⟨rfl,hu3⟩;have HU3:=Lib.hid hu3;have HS3:=Lib.hid (pkeep HU3 (by assumption));obtain ⟨hc3,hz3⟩:=hu3.cells;have hs3:=hu3.size;(try simp at hs3);clear hu3;(try unfold got2);(try (have p3_0:wr.heap.size<w3.heap.size:=by omega));(try (have p3_1:w1.heap.size<w3.heap.size:=by omega));(try (have p3_2:w2.heap.size<w3.heap.size:=by omega))))
            all_goals
              go_wp2_with fail
              go_meet
              refine ⟨_,?_,rfl,?_,?_,And.left (by assumption)⟩
              · omega
              all_goals (first | (simp [go_sem, *];done))
          obtain ⟨g,lg,rfl,e0,e1,hP⟩:=hcut
          have HP2:=Lib.hid hP
          have z0:=hP.up.ownGe (show w.heap.size≤g by omega) 0
          have z1:=hP.up.ownGe (show w.heap.size≤g by omega) 1
          have ci:=hP.c0
          have lw:g<wc.heap.size:=World.block_lt_of_cell? _ _ e0
          clear hP ci hb
          go_upto_region 10 with fail
          go_cut [] (fun wx=>wx.cell? ⟨g,0,none⟩=some (.int .u64 (hiZ t00))∧wx.cell? ⟨g,1,none⟩=some (.int .u64 (loZ t00))∧Pr w wx 0 0 0 0 bh bl)
          case first =>
            go_region_with (first
              | (go_at_call 60;(with_reducible refine (of_up (0) _).mono ?_);rintro e w4 ⟨rfl,hu4⟩;have HU4:=Lib.hid hu4;have e0':=hu4.keep _ _ _ (show wc.drew.cell? _=_ from e0);have e1':=hu4.keep _ _ _ (show wc.drew.cell? _=_ from e1);have z0':=(hu4.cells.2 _).trans z0;have z1':=(hu4.cells.2 _).trans z1;clear hu4)
              | (go_at_call 93;(with_reducible refine (B00.out _).mono ?_);rintro e w5 ⟨rfl,hu5⟩;have HU5:=Lib.hid hu5;have e0'':=hu5.keep _ _ _ e0';have e1'':=hu5.keep _ _ _ e1';have z0'':=(hu5.cells.2 _).trans z0';have z1'':=(hu5.cells.2 _).trans z1';clear hu5;unfold got2))
            all_goals
              go_wp2_with fail
              go_meet
              refine ⟨by simp [go_sem, *],by simp [go_sem, *],?_⟩
              exact (((HP2.out.keep (Up.refl _).drew).keep HU4.out).keep HU5.out).far lg |>.far lg
          obtain ⟨e0,e1,hP⟩:=hcut
          have HP3:=Lib.hid hP
          have ci:=hP.c0
          have z2:=hP.up.ownGe (show w.heap.size≤w.heap.size+1+1+1 by omega) 0
          clear hP
          go_wp2_with fail
          go_region
          all_goals
            go_wp2_with fail
            go_roundg 1
            case measure=>omega
            case rel=>exact Or.inr (Or.inl ⟨rfl,rfl,rfl,(HP3.out.keep (Up.refl _).drew).set0⟩)
        · have HP1:=Lib.hid hP
          have ci:=hP.c1
          have HB:=Lib.hid (World.block_lt_of_cell? _ _ hP.c0)
          have hb:w.heap.size+1+1+1<wr.heap.size:=HB.out
          clear hP
          go_upto_region 9 with fail
          go_cut [11] (fun t wx=>∃ g:Nat,w.heap.size+1+1+1<g∧t=.pointer (some ⟨g,0,none⟩)∧wx.cell? ⟨g,0,none⟩=some (.int .u64 (hiZ s01))∧wx.cell? ⟨g,1,none⟩=some (.int .u64 (loZ s01))∧Pr w wx (loZ t00) 0 0 0 bh bl)
          case first =>
            go_region_held3 (fun w'=>Pr w w' (loZ t00) 0 0 0 bh bl∧w'.cell? ⟨w.heap.size+1+1+1,1,none⟩=some (.int .u64 (0)))
              (first | (with_reducible exact pkeep (by assumption) (by assumption)) | (repeat (first | (with_reducible assumption) | (with_reducible exact Hid.out (by assumption)) | (with_reducible exact ⟨HP1.out,ci⟩) | (with_reducible refine pkeep (Lib.hid ((Up.refl _).alloc _ _)) ?_) | (with_reducible refine pkeep (Lib.hid (Up.refl _).drew) ?_) | (with_reducible refine pset ?_ (by omega)))))
              (first
                | (go_at_call 56;(with_reducible refine (H01.out _).mono ?_);rintro e w1 ⟨rfl,hu1⟩;have HU1:=Lib.hid hu1;have HS1:=Lib.hid (pkeep HU1 (by assumption));obtain ⟨hc1,hz1⟩:=hu1.cells;have hs1:=hu1.size;(try simp at hs1);clear hu1;(try unfold got2);(try (have p1_0:wr.heap.size<w1.heap.size:=by omega));(try (have p1_1:w2.heap.size<w1.heap.size:=by omega)))
                | (go_at_call 60;(with_reducible refine (of_up (0) _).mono ?_);rintro e w2 ⟨rfl,hu2⟩;have HU2:=Lib.hid hu2;have HS2:=Lib.hid (pkeep HU2 (by assumption));obtain ⟨hc2,hz2⟩:=hu2.cells;have hs2:=hu2.size;(try simp at hs2);clear hu2;(try unfold got2);(try (have p2_0:wr.heap.size<w2.heap.size:=by omega));(try (have p2_1:w1.heap.size<w2.heap.size:=by omega)))
                | (go_at_call 93;(with_reducible refine (A01.out _).mono ?_);rintro e w3 ⟨rfl,hu3⟩;have HU3:=Lib.hid hu3;have HS3:=Lib.hid (pkeep HU3 (by assumption));obtain ⟨hc3,hz3⟩:=hu3.cells;have hs3:=hu3.size;(try simp at hs3);clear hu3;(try unfold got2);(try (have p3_0:wr.heap.size<w3.heap.size:=by omega));(try (have p3_1:w1.heap.size<w3.heap.size:=by omega));(try (have p3_2:w2.heap.size<w3.heap.size:=by omega))))
            all_goals
              go_wp2_with fail
              go_meet
              refine ⟨_,?_,rfl,?_,?_,And.left (by assumption)⟩
              · omega
              all_goals (first | (simp [go_sem, *];done))
          obtain ⟨g,lg,rfl,e0,e1,hP⟩:=hcut
          have HP2:=Lib.hid hP
          have z0:=hP.up.ownGe (show w.heap.size≤g by omega) 0
          have z1:=hP.up.ownGe (show w.heap.size≤g by omega) 1
          have ci:=hP.c1
          have lw:g<wc.heap.size:=World.block_lt_of_cell? _ _ e0
          clear hP ci hb
          go_upto_region 10 with fail
          go_cut [] (fun wx=>wx.cell? ⟨g,0,none⟩=some (.int .u64 (hiZ t01))∧wx.cell? ⟨g,1,none⟩=some (.int .u64 (loZ t01))∧Pr w wx (loZ t00) 0 0 0 bh bl)
          case first =>
            go_region_with (first
              | (go_at_call 60;(with_reducible refine (of_up (hiZ t00) _).mono ?_);rintro e w4 ⟨rfl,hu4⟩;have HU4:=Lib.hid hu4;have e0':=hu4.keep _ _ _ (show wc.drew.cell? _=_ from e0);have e1':=hu4.keep _ _ _ (show wc.drew.cell? _=_ from e1);have z0':=(hu4.cells.2 _).trans z0;have z1':=(hu4.cells.2 _).trans z1;clear hu4)
              | (go_at_call 93;(with_reducible refine (B01.out _).mono ?_);rintro e w5 ⟨rfl,hu5⟩;have HU5:=Lib.hid hu5;have e0'':=hu5.keep _ _ _ e0';have e1'':=hu5.keep _ _ _ e1';have z0'':=(hu5.cells.2 _).trans z0';have z1'':=(hu5.cells.2 _).trans z1';clear hu5;unfold got2))
            all_goals
              go_wp2_with fail
              go_meet
              refine ⟨by simp [go_sem, *],by simp [go_sem, *],?_⟩
              exact (((HP2.out.keep (Up.refl _).drew).keep HU4.out).keep HU5.out).far lg |>.far lg
          obtain ⟨e0,e1,hP⟩:=hcut
          have HP3:=Lib.hid hP
          have ci:=hP.c1
          have z2:=hP.up.ownGe (show w.heap.size≤w.heap.size+1+1+1 by omega) 1
          clear hP
          go_wp2_with fail
          go_region
          all_goals
            go_wp2_with fail
            go_roundg 0
            case measure=>omega
            case rel=>exact Or.inr (Or.inr ⟨rfl,rfl,rfl,(HP3.out.keep (Up.refl _).drew).set1⟩)
        · have HP1:=Lib.hid hP
          have ci:=hP.c2
          have z2:=hP.up.ownGe (show w.heap.size≤w.heap.size+1+1+1 by omega) 2
          clear hP
          go_wp2_with fail
          go_roundg 1
          case measure=>omega
          case rel=>exact Or.inr (Or.inl ⟨rfl,rfl,HP1.out.set2⟩)
    · have HP:=Lib.hid hP
      have b0:=hP.b0
      have b1:=hP.b1
      clear hP
      go_wp2_with fail
      go_loopg [8,27] 2 (fun k u8 u27 wr=>(k=2∧u27=.int .i64 0∧u8=.int .u64 (0)∧Pr w wr (loZ t00) (loZ t01) (hiZ t01) 0 bh bl)∨(k=1∧u27=.int .i64 1∧u8=.int .u64 (hiZ t10)∧Pr w wr (loZ t00) (loZ t10) (hiZ t01) 0 bh bl)∨(k=0∧u27=.int .i64 2∧u8=.int .u64 (hiZ t11)∧Pr w wr (loZ t00) (loZ t10) (loZ t11) 0 bh bl))
      case atStart =>
        refine Or.inl ⟨rfl,rfl,rfl,HP.out.keep ?_⟩
        repeat (first | exact Up.refl _ | refine Up.alloc ?_ _ _ | refine Up.setCell ?_ (by first | (simp;done) | (simp;omega) | omega) _ | refine Up.drewN ?_ _ | refine Up.drew ?_)
      case round =>
        rcases hrel with ⟨rfl,rfl,rfl,hP⟩ | ⟨rfl,rfl,rfl,hP⟩ | ⟨rfl,rfl,rfl,hP⟩
        · have HP1:=Lib.hid hP
          have ci:=hP.c1
          have HB:=Lib.hid (World.block_lt_of_cell? _ _ hP.c0)
          have hb:w.heap.size+1+1+1<wr.heap.size:=HB.out
          clear hP
          go_upto_region 9 with fail
          go_cut [11] (fun t wx=>∃ g:Nat,w.heap.size+1+1+1<g∧t=.pointer (some ⟨g,0,none⟩)∧wx.cell? ⟨g,0,none⟩=some (.int .u64 (hiZ s10))∧wx.cell? ⟨g,1,none⟩=some (.int .u64 (loZ s10))∧Pr w wx (loZ t00) (loZ t01) (hiZ t01) 0 bh bl)
          case first =>
            go_region_held3 (fun w'=>Pr w w' (loZ t00) (loZ t01) (hiZ t01) 0 bh bl∧w'.cell? ⟨w.heap.size+1+1+1,1,none⟩=some (.int .u64 (loZ t01)))
              (first | (with_reducible exact pkeep (by assumption) (by assumption)) | (repeat (first | (with_reducible assumption) | (with_reducible exact Hid.out (by assumption)) | (with_reducible exact ⟨HP1.out,ci⟩) | (with_reducible refine pkeep (Lib.hid ((Up.refl _).alloc _ _)) ?_) | (with_reducible refine pkeep (Lib.hid (Up.refl _).drew) ?_) | (with_reducible refine pset ?_ (by omega)))))
              (first
                | (go_at_call 56;(with_reducible refine (H10.out _).mono ?_);rintro e w1 ⟨rfl,hu1⟩;have HU1:=Lib.hid hu1;have HS1:=Lib.hid (pkeep HU1 (by assumption));obtain ⟨hc1,hz1⟩:=hu1.cells;have hs1:=hu1.size;(try simp at hs1);clear hu1;(try unfold got2);(try (have p1_0:wr.heap.size<w1.heap.size:=by omega));(try (have p1_1:w2.heap.size<w1.heap.size:=by omega)))
                | (go_at_call 60;(with_reducible refine (of_up (loZ t01) _).mono ?_);rintro e w2 ⟨rfl,hu2⟩;have HU2:=Lib.hid hu2;have HS2:=Lib.hid (pkeep HU2 (by assumption));obtain ⟨hc2,hz2⟩:=hu2.cells;have hs2:=hu2.size;(try simp at hs2);clear hu2;(try unfold got2);(try (have p2_0:wr.heap.size<w2.heap.size:=by omega));(try (have p2_1:w1.heap.size<w2.heap.size:=by omega)))
                | (go_at_call 93;(with_reducible refine (A10.out _).mono ?_);rintro e w3 ⟨rfl,hu3⟩;have HU3:=Lib.hid hu3;have HS3:=Lib.hid (pkeep HU3 (by assumption));obtain ⟨hc3,hz3⟩:=hu3.cells;have hs3:=hu3.size;(try simp at hs3);clear hu3;(try unfold got2);(try (have p3_0:wr.heap.size<w3.heap.size:=by omega));(try (have p3_1:w1.heap.size<w3.heap.size:=by omega));(try (have p3_2:w2.heap.size<w3.heap.size:=by omega))))
            all_goals
              go_wp2_with fail
              go_meet
              refine ⟨_,?_,rfl,?_,?_,And.left (by assumption)⟩
              · omega
              all_goals (first | (simp [go_sem, *];done))
          obtain ⟨g,lg,rfl,e0,e1,hP⟩:=hcut
          have HP2:=Lib.hid hP
          have z0:=hP.up.ownGe (show w.heap.size≤g by omega) 0
          have z1:=hP.up.ownGe (show w.heap.size≤g by omega) 1
          have ci:=hP.c1
          have lw:g<wc.heap.size:=World.block_lt_of_cell? _ _ e0
          clear hP ci hb
          go_upto_region 10 with fail
          go_cut [] (fun wx=>wx.cell? ⟨g,0,none⟩=some (.int .u64 (hiZ t10))∧wx.cell? ⟨g,1,none⟩=some (.int .u64 (loZ t10))∧Pr w wx (loZ t00) (loZ t01) (hiZ t01) 0 bh bl)
          case first =>
            go_region_with (first
              | (go_at_call 60;(with_reducible refine (of_up (0) _).mono ?_);rintro e w4 ⟨rfl,hu4⟩;have HU4:=Lib.hid hu4;have e0':=hu4.keep _ _ _ (show wc.drew.cell? _=_ from e0);have e1':=hu4.keep _ _ _ (show wc.drew.cell? _=_ from e1);have z0':=(hu4.cells.2 _).trans z0;have z1':=(hu4.cells.2 _).trans z1;clear hu4)
              | (go_at_call 93;(with_reducible refine (B10.out _).mono ?_);rintro e w5 ⟨rfl,hu5⟩;have HU5:=Lib.hid hu5;have e0'':=hu5.keep _ _ _ e0';have e1'':=hu5.keep _ _ _ e1';have z0'':=(hu5.cells.2 _).trans z0';have z1'':=(hu5.cells.2 _).trans z1';clear hu5;unfold got2))
            all_goals
              go_wp2_with fail
              go_meet
              refine ⟨by simp [go_sem, *],by simp [go_sem, *],?_⟩
              exact (((HP2.out.keep (Up.refl _).drew).keep HU4.out).keep HU5.out).far lg |>.far lg
          obtain ⟨e0,e1,hP⟩:=hcut
          have HP3:=Lib.hid hP
          have ci:=hP.c1
          have z2:=hP.up.ownGe (show w.heap.size≤w.heap.size+1+1+1 by omega) 1
          clear hP
          go_wp2_with fail
          go_region
          all_goals
            go_wp2_with fail
            go_roundg 1
            case measure=>omega
            case rel=>exact Or.inr (Or.inl ⟨rfl,rfl,rfl,(HP3.out.keep (Up.refl _).drew).set1⟩)
        · have HP1:=Lib.hid hP
          have ci:=hP.c2
          have HB:=Lib.hid (World.block_lt_of_cell? _ _ hP.c0)
          have hb:w.heap.size+1+1+1<wr.heap.size:=HB.out
          clear hP
          go_upto_region 9 with fail
          go_cut [11] (fun t wx=>∃ g:Nat,w.heap.size+1+1+1<g∧t=.pointer (some ⟨g,0,none⟩)∧wx.cell? ⟨g,0,none⟩=some (.int .u64 (hiZ s11))∧wx.cell? ⟨g,1,none⟩=some (.int .u64 (loZ s11))∧Pr w wx (loZ t00) (loZ t10) (hiZ t01) 0 bh bl)
          case first =>
            go_region_held3 (fun w'=>Pr w w' (loZ t00) (loZ t10) (hiZ t01) 0 bh bl∧w'.cell? ⟨w.heap.size+1+1+1,2,none⟩=some (.int .u64 (hiZ t01)))
              (first | (with_reducible exact pkeep (by assumption) (by assumption)) | (repeat (first | (with_reducible assumption) | (with_reducible exact Hid.out (by assumption)) | (with_reducible exact ⟨HP1.out,ci⟩) | (with_reducible refine pkeep (Lib.hid ((Up.refl _).alloc _ _)) ?_) | (with_reducible refine pkeep (Lib.hid (Up.refl _).drew) ?_) | (with_reducible refine pset ?_ (by omega)))))
              (first
                | (go_at_call 56;(with_reducible refine (H11.out _).mono ?_);rintro e w1 ⟨rfl,hu1⟩;have HU1:=Lib.hid hu1;have HS1:=Lib.hid (pkeep HU1 (by assumption));obtain ⟨hc1,hz1⟩:=hu1.cells;have hs1:=hu1.size;(try simp at hs1);clear hu1;(try unfold got2);(try (have p1_0:wr.heap.size<w1.heap.size:=by omega));(try (have p1_1:w2.heap.size<w1.heap.size:=by omega)))
                | (go_at_call 60;(with_reducible refine (of_up (hiZ t01) _).mono ?_);rintro e w2 ⟨rfl,hu2⟩;have HU2:=Lib.hid hu2;have HS2:=Lib.hid (pkeep HU2 (by assumption));obtain ⟨hc2,hz2⟩:=hu2.cells;have hs2:=hu2.size;(try simp at hs2);clear hu2;(try unfold got2);(try (have p2_0:wr.heap.size<w2.heap.size:=by omega));(try (have p2_1:w1.heap.size<w2.heap.size:=by omega)))
                | (go_at_call 93;(with_reducible refine (A11.out _).mono ?_);rintro e w3 ⟨rfl,hu3⟩;have HU3:=Lib.hid hu3;have HS3:=Lib.hid (pkeep HU3 (by assumption));obtain ⟨hc3,hz3⟩:=hu3.cells;have hs3:=hu3.size;(try simp at hs3);clear hu3;(try unfold got2);(try (have p3_0:wr.heap.size<w3.heap.size:=by omega));(try (have p3_1:w1.heap.size<w3.heap.size:=by omega));(try (have p3_2:w2.heap.size<w3.heap.size:=by omega))))
            all_goals
              go_wp2_with fail
              go_meet
              refine ⟨_,?_,rfl,?_,?_,And.left (by assumption)⟩
              · omega
              all_goals (first | (simp [go_sem, *];done))
          obtain ⟨g,lg,rfl,e0,e1,hP⟩:=hcut
          have HP2:=Lib.hid hP
          have z0:=hP.up.ownGe (show w.heap.size≤g by omega) 0
          have z1:=hP.up.ownGe (show w.heap.size≤g by omega) 1
          have ci:=hP.c2
          have lw:g<wc.heap.size:=World.block_lt_of_cell? _ _ e0
          clear hP ci hb
          go_upto_region 10 with fail
          go_cut [] (fun wx=>wx.cell? ⟨g,0,none⟩=some (.int .u64 (hiZ t11))∧wx.cell? ⟨g,1,none⟩=some (.int .u64 (loZ t11))∧Pr w wx (loZ t00) (loZ t10) (hiZ t01) 0 bh bl)
          case first =>
            go_region_with (first
              | (go_at_call 60;(with_reducible refine (of_up (hiZ t10) _).mono ?_);rintro e w4 ⟨rfl,hu4⟩;have HU4:=Lib.hid hu4;have e0':=hu4.keep _ _ _ (show wc.drew.cell? _=_ from e0);have e1':=hu4.keep _ _ _ (show wc.drew.cell? _=_ from e1);have z0':=(hu4.cells.2 _).trans z0;have z1':=(hu4.cells.2 _).trans z1;clear hu4)
              | (go_at_call 93;(with_reducible refine (B11.out _).mono ?_);rintro e w5 ⟨rfl,hu5⟩;have HU5:=Lib.hid hu5;have e0'':=hu5.keep _ _ _ e0';have e1'':=hu5.keep _ _ _ e1';have z0'':=(hu5.cells.2 _).trans z0';have z1'':=(hu5.cells.2 _).trans z1';clear hu5;unfold got2))
            all_goals
              go_wp2_with fail
              go_meet
              refine ⟨by simp [go_sem, *],by simp [go_sem, *],?_⟩
              exact (((HP2.out.keep (Up.refl _).drew).keep HU4.out).keep HU5.out).far lg |>.far lg
          obtain ⟨e0,e1,hP⟩:=hcut
          have HP3:=Lib.hid hP
          have ci:=hP.c2
          have z2:=hP.up.ownGe (show w.heap.size≤w.heap.size+1+1+1 by omega) 2
          clear hP
          go_wp2_with fail
          go_region
          all_goals
            go_wp2_with fail
            go_roundg 0
            case measure=>omega
            case rel=>exact Or.inr (Or.inr ⟨rfl,rfl,rfl,(HP3.out.keep (Up.refl _).drew).set2⟩)
        · have HP1:=Lib.hid hP
          have ci:=hP.c3
          have z2:=hP.up.ownGe (show w.heap.size≤w.heap.size+1+1+1 by omega) 3
          clear hP
          go_wp2_with fail
          go_roundg 0
          case measure=>omega
          case rel=>exact Or.inr (Or.inr ⟨rfl,rfl,HP1.out.set3⟩)
    · have HP:=Lib.hid hP
      have c0:=hP.c0
      have c1:=hP.c1
      have c2:=hP.c2
      have c3:=hP.c3
      have r0:=hP.r0
      have r1:=hP.r1
      have r2:=hP.r2
      have r3:=hP.r3
      have z0:=hP.up.ownGe (show w.heap.size≤w.heap.size+1+1 by omega) 0
      have z1:=hP.up.ownGe (show w.heap.size≤w.heap.size+1+1 by omega) 1
      have z2:=hP.up.ownGe (show w.heap.size≤w.heap.size+1+1 by omega) 2
      have z3:=hP.up.ownGe (show w.heap.size≤w.heap.size+1+1 by omega) 3
      clear hP
      go_wp2_with fail
      refine bodyPost_ret (v:=.agg #[.int .u64 (loZ t00),.int .u64 (loZ t10),.int .u64 (loZ t11),.int .u64 (hiZ t11)]) (by simp [results,Tryz.results58,go_sem,r0,r1,r2,r3]) rfl ⟨?_,?_⟩
      · rfl
      · ((repeat (first | (with_reducible exact Up.refl _) | (with_reducible exact HP.out.up) | (with_reducible refine Up.alloc ?_ _ _) | (with_reducible refine Up.setCell ?_ ?_ _) | (with_reducible refine Up.drewN ?_ _) | (with_reducible refine Up.drew ?_)));all_goals (first | (simp;done) | (simp;omega) | omega))

theorem product4_v (x y:Int) (hx:In2 x) (hy:In2 y) (w:World) :
    Calls Tryz.prog 58 #[.agg #[.int .u64 (hiZ x),.int .u64 (loZ x)],.agg #[.int .u64 (hiZ y),.int .u64 (loZ y)]] w fun e w' =>
      e=.returned (.agg #[.int .u64 (g0 (x * y)),.int .u64 (g1 (x * y)),.int .u64 (g2 (x * y)),.int .u64 (g3 (x * y))])∧Up w w':=by
  have h:=product4_up (hiZ x) (loZ x) (hiZ y) (loZ y) (hiZ_word hx) (loZ_word x) (hiZ_word hy) (loZ_word y) w
  rw [val_hilo,val_hilo] at h
  exact h
end Go.Proofs.YtafkoddgefcpnaaGreat
