/- Texts of these claims, one after the other. -/
import Derived.Test.YtafkoddgefcpnaaGreatRows
import Derived.Below
import Derived.BigQuiet
import Derived.Carry
import Derived.ChangeSlices
import Derived.Deep.AppendLies
import Derived.Deep.Cut
import Derived.Deep.DeepCutAuto
import Derived.Deep.Draws
import Derived.Deep.LoopGhost
import Derived.Deep.QuietTactic
import Derived.Deep.RegionHeld3
import Derived.Deep.RegionLaw
import Derived.Deep.RegionWith
import Derived.Deep.SlicePairs
import Derived.Deep.Slices
import Derived.Great.BuildSlice
import Derived.IntWalk
import Derived.Laws.CopyOwn
import Derived.Laws.Externs
import Derived.Laws.IdiomStrings
import Derived.Laws.OwnMore
import Derived.Laws.Rows
import Derived.Lib.BitFns
import Derived.Lib.Hide
import Derived.Lib.Mul64
import Derived.Lib.SliceRun
import Derived.Lib.SmallJoins
import Derived.Maps.AppendAt
import Derived.OpenShut
import Derived.OwnWalk
import Derived.ProofKit
import Derived.RegionTactic
import Derived.RowKit3
import Derived.SizedLaws
import Derived.WalkKit
import Derived.WalkSmall
import Derived.WalkSpells
namespace Go.Proofs.YtafkoddgefcpnaaGreat

/-- A word of 64 bits. -/
def Word (x:Int):Prop:=0≤x∧x<18446744073709551616
/-- The number of two words. -/
def val (h l:Int):Int:=h * 18446744073709551616+l
/-- The two words of a number. -/
def hiZ (v:Int):Int:=v / 18446744073709551616
def loZ (v:Int):Int:=v % 18446744073709551616
/-- A number of two words. -/
def In2 (v:Int):Prop:=0≤v∧v<340282366920938463463374607431768211456
def fits2 (v:Int):Bool:=decide (0≤v∧v<340282366920938463463374607431768211456)
def fit2 (v:Int):Int:=if fits2 v=true then v else 0

theorem fits2_yes {v:Int} (h:In2 v):fits2 v=true:=by unfold fits2;exact decide_eq_true h
theorem fits2_no {v:Int} (h:¬ In2 v):fits2 v=false:=by unfold fits2;exact decide_eq_false h
theorem fit2_yes {v:Int} (h:In2 v):fit2 v=v:=by unfold fit2;rw [if_pos (fits2_yes h)]
theorem fit2_no {v:Int} (h:¬ In2 v):fit2 v=0:=by unfold fit2;rw [fits2_no h];rfl
theorem hiZ_word {v:Int} (h:In2 v):Word (hiZ v):=by obtain ⟨h1,h2⟩:=h;unfold hiZ;exact ⟨by omega,by omega⟩
theorem loZ_word (v:Int):Word (loZ v):=by unfold loZ;exact ⟨by omega,by omega⟩
theorem hiZ_0:hiZ 0=0:=by decide
theorem loZ_0:loZ 0=0:=by decide
theorem val_in {h l:Int} (hh:Word h) (hl:Word l):In2 (val h l):=by
  obtain ⟨h1,h2⟩:=hh;obtain ⟨h3,h4⟩:=hl;unfold val;exact ⟨by omega,by omega⟩
theorem hiZ_val {h l:Int} (hl:Word l):hiZ (val h l)=h:=by obtain ⟨h3,h4⟩:=hl;unfold hiZ val;omega
theorem loZ_val {h l:Int} (hl:Word l):loZ (val h l)=l:=by obtain ⟨h3,h4⟩:=hl;unfold loZ val;omega
theorem val_hilo (v:Int):val (hiZ v) (loZ v)=v:=by unfold val hiZ loZ;omega
theorem word_0:Word 0:=⟨by decide,by decide⟩
/-! ### The next half of a quotient -/
/-- The next half of a quotient by y = y1 * 2^32 + y0, of u * 2^32 + v. -/
def qh (u v y:Int):Int:=(u * 4294967296+v) / y

theorem qh_lt {u v y:Int} (hu0:0≤u) (hu:u<y) (hv0:0≤v) (hv:v<4294967296):0≤qh u v y∧qh u v y<4294967296:=by
  unfold qh
  refine ⟨Int.ediv_nonneg (by omega) (by omega),?_⟩
  exact Int.ediv_lt_of_lt_mul (by omega) (by omega)

theorem qh_le {u v y1 y0:Int} (hy:0<y1) (h0:0≤y0) (hu0:0≤u) (hv0:0≤v) (hv:v<4294967296):qh u v (y1 * 4294967296+y0)≤u / y1:=by
  unfold qh
  have e:=Int.mul_ediv_add_emod u y1
  have m1:=Int.emod_nonneg u (show y1 ≠ 0 by omega)
  have m2:=Int.emod_lt_of_pos u hy
  apply Int.le_of_lt_add_one
  apply Int.ediv_lt_of_lt_mul (by omega)
  have hq:0≤u / y1:=Int.ediv_nonneg hu0 (by omega)
  generalize u / y1=q at *
  have h1:(q+1) * (y1 * 4294967296+y0)=(y1 * q+y1) * 4294967296+(q+1) * y0:=by
    rw [Int.mul_add,← Int.mul_assoc,Int.add_mul q 1 y1,Int.one_mul,Int.mul_comm q y1]
  have h2:0≤(q+1) * y0:=Int.mul_nonneg (by omega) h0
  rw [h1]
  generalize (q+1) * y0=z at *
  generalize y1 * q=t at *
  omega

/-- The guess is too great: one less is still enough. -/
theorem qh_down {u v y1 y0 q r:Int} (_:0<y1) (_:0≤y0) (hu0:0≤u) (hu:u<y1 * 4294967296+y0) (hv0:0≤v) (hv:v<4294967296) (e:u=q * y1+r)
    (hle:qh u v (y1 * 4294967296+y0)≤q) (h:4294967296≤q∨r * 4294967296+v<q * y0):qh u v (y1 * 4294967296+y0)≤q - 1:=by
  rcases h with h | h
  · have:=(qh_lt hu0 hu hv0 hv).2;omega
  · have:qh u v (y1 * 4294967296+y0)<q:=by
      unfold qh
      apply Int.ediv_lt_of_lt_mul (by omega)
      have h1:q * (y1 * 4294967296+y0)=q * y1 * 4294967296+q * y0:=by rw [Int.mul_add,← Int.mul_assoc]
      rw [h1]
      generalize q * y1=a at *
      generalize q * y0=b at *
      omega
    omega
/-- The guess is not too great. -/
theorem qh_is {u v y1 y0 q r:Int} (hy:0<y1) (h0:0≤y0) (e:u=q * y1+r)
    (hle:qh u v (y1 * 4294967296+y0)≤q) (h:q * y0≤r * 4294967296+v):qh u v (y1 * 4294967296+y0)=q:=by
  have:q≤qh u v (y1 * 4294967296+y0):=by
    unfold qh
    rw [Int.le_ediv_iff_mul_le (by omega)]
    have h1:q * (y1 * 4294967296+y0)=q * y1 * 4294967296+q * y0:=by rw [Int.mul_add,← Int.mul_assoc]
    rw [h1]
    generalize q * y1=a at *
    generalize q * y0=b at *
    omega
  omega
/-- The rest is so great that the guess is not too great. -/
theorem qh_break {u v y1 y0 q r:Int} (hy:0<y1) (h0:0≤y0) (h1:y0<4294967296) (hu:u<y1 * 4294967296+y0) (hv0:0≤v) (e:u=q * y1+r) (hq:0≤q)
    (hle:qh u v (y1 * 4294967296+y0)≤q) (h:4294967296≤r):qh u v (y1 * 4294967296+y0)=q:=by
  apply qh_is hy h0 e hle
  by_cases hb:q<4294967296
  · have:q * y0≤4294967296 * 4294967296:=Int.mul_le_mul (by omega) (by omega) h0 (by omega)
    omega
  · exfalso
    have:4294967296 * y1≤q * y1:=Int.mul_le_mul_of_nonneg_right (by omega) (by omega)
    generalize q * y1=a at *
    omega

/-- What is left after a half. -/
def rh (u v y:Int):Int:=(u * 4294967296+v) % y
theorem rh_bound {u v y:Int} (hy:0<y):0≤rh u v y∧rh u v y<y:=⟨Int.emod_nonneg _ (by omega),Int.emod_lt_of_pos _ hy⟩
theorem rh_eq (u v y:Int):rh u v y=u * 4294967296+v - qh u v y * y:=by
  unfold rh qh
  have:=Int.mul_ediv_add_emod (u * 4294967296+v) y
  rw [Int.mul_comm y] at this
  omega

/-- Two halves make the whole: the quotient and the rest of the shifted numbers, and of the numbers. -/
theorem halves {hi lo y k u32 v1 v0:Int} (hk:0<k) (hy:0<y) (e:(hi * 18446744073709551616+lo) * k=(u32 * 4294967296+v1) * 4294967296+v0) :
    qh u32 v1 (y * k) * 4294967296+qh (rh u32 v1 (y * k)) v0 (y * k)=(hi * 18446744073709551616+lo) / y ∧
    rh (rh u32 v1 (y * k)) v0 (y * k) / k=(hi * 18446744073709551616+lo) % y:=by
  have hyk:0<y * k:=Int.mul_pos hy hk
  generalize hi * 18446744073709551616+lo=u at *
  have e1:=rh_eq u32 v1 (y * k)
  have e2:=rh_eq (rh u32 v1 (y * k)) v0 (y * k)
  have b:=rh_bound (u:=rh u32 v1 (y * k)) (v:=v0) hyk
  generalize rh (rh u32 v1 (y * k)) v0 (y * k)=R at *
  generalize qh (rh u32 v1 (y * k)) v0 (y * k)=q0 at *
  generalize rh u32 v1 (y * k)=r1 at *
  generalize qh u32 v1 (y * k)=q1 at *
  have e3:u * k=(q1 * 4294967296+q0) * (y * k)+R:=by
    rw [Int.add_mul,Int.mul_right_comm q1]
    generalize q1 * (y * k)=a at *
    generalize q0 * (y * k)=c at *
    omega
  generalize q1 * 4294967296+q0=Q at *
  have e4:R=(u - Q * y) * k:=by
    rw [Int.sub_mul,Int.mul_assoc];omega
  have e5:0≤u - Q * y:=by
    by_cases h:0≤u - Q * y
    · exact h
    · have:(u - Q * y) * k<0:=Int.mul_neg_of_neg_of_pos (by omega) hk
      omega
  have e6:u - Q * y<y:=by
    have h:(u - Q * y) * k<y * k:=by omega
    exact Int.lt_of_mul_lt_mul_right h (by omega)
  have e7:u=(u - Q * y)+y * Q:=by rw [Int.mul_comm y];omega
  have e8:u / y=Q:=by
    rw [e7,Int.add_mul_ediv_left _ _ (by omega),Int.ediv_eq_zero_of_lt e5 e6];omega
  constructor
  · exact e8.symm
  · rw [e4,Int.mul_ediv_cancel _ (by omega)]
    have:=Int.mul_ediv_add_emod u y
    rw [e8,Int.mul_comm y] at this
    omega

end Go.Proofs.YtafkoddgefcpnaaGreat

namespace Go.Proofs.YtafkoddgefcpnaaGreat
open Go.RowKit

/-- What was there is as it was; blocks may have come. -/
structure Up (w w':World):Prop where
  grown:Grown w w'
  below:Below w.heap.size w w'

theorem Up.refl (w:World):Up w w:=⟨Grown.refl _,Below.refl _ _⟩
theorem Up.alloc {w w':World} (h:Up w w') (c:Array Value) (t:TypeId):Up w (w'.alloc (.cells c t)) :=
  ⟨h.grown.alloc c t,h.below.alloc h.below.size _⟩
theorem Up.setCell {w w':World} (h:Up w w') {a:Addr} (ha:w.heap.size≤a.block) (v:Value):Up w (w'.setCell a v) :=
  ⟨h.grown.setCell ha v,h.below.setCell ha v⟩
theorem Up.drew {w w':World} (h:Up w w'):Up w w'.drew:=⟨h.grown.drew,h.below.drew⟩
theorem Up.drewN {w w':World} (h:Up w w') (n:Nat):Up w (w'.drewN n) :=
  ⟨h.grown,⟨h.below.os,h.below.tape,h.below.output,h.below.size,h.below.block⟩⟩
theorem Up.trans {a b c:World} (h:Up a b) (k:Up b c):Up a c :=
  ⟨⟨World.keptBut_trans h.grown.1 k.grown.1,fun x=>(k.grown.2.1 x).trans (h.grown.2.1 x),Nat.le_trans h.grown.2.2 k.grown.2.2⟩,
    h.below.trans (k.below.mono h.below.size)⟩
theorem Up.cells {w w':World} (h:Up w w'):(∀ b o,b<w.heap.size→w'.cell? ⟨b,o,none⟩=w.cell? ⟨b,o,none⟩)∧(∀ a,w'.frozen? a=w.frozen? a) :=
  ⟨fun b o hb=>h.below.cell (p:=⟨b,o,none⟩) hb,h.grown.2.1⟩
theorem Up.size {w w':World} (h:Up w w'):w.heap.size≤w'.heap.size:=h.below.size

theorem size_set (w:World) (p:Addr) (v:Value):(w.setCell p v).heap.size=w.heap.size:=by simp [World.setCell]
theorem size_alloc (w:World) (o:Obj):(w.alloc o).heap.size=w.heap.size+1:=by simp
def got2 (v:Int) (b:Bool):Ending:=.returned (.tuple #[.agg #[.int .u64 (hiZ v),.int .u64 (loZ v)],.bool b])

theorem add64 (x y c:Int) (hx:0≤x) (hy:0≤y) (hc0:0≤c) (hc:c≤1) (w:World):(callFunc 109 #[.int .u64 x,.int .u64 y,.int .u64 c]).run Tryz.prog w =
    .ok (.value (.tuple #[.int .u64 ((x+y+c) % 18446744073709551616),.int .u64 ((x+y+c) / 18446744073709551616)])) w:=by
  rw [run_callFunc_extern Tryz.func109 (by kernel_rfl) (by kernel_rfl) (by kernel_rfl) (e:=add64Entry) (by kernel_rfl),run_add64 x y c hx hy hc0 hc]
  rfl
theorem add64_0 (x y:Int) (hx:0≤x) (hy:0≤y) (w:World):(callFunc 109 #[.int .u64 x,.int .u64 y,.int .u64 0]).run Tryz.prog w =
    .ok (.value (.tuple #[.int .u64 ((x+y) % 18446744073709551616),.int .u64 ((x+y) / 18446744073709551616)])) w:=by
  simpa using add64 x y 0 hx hy (Int.le_refl 0) (by decide) w

/-- The model's entry for math/bits.Sub64. -/
def subEntry:Array Value→Sem Value:=fun args=>do
  let (x, y, b) ← Extern.MathBitsCarry.three "Sub64" args
  pure (Extern.MathBitsCarry.pair ((x+Extern.MathBitsCarry.m64 - y - b) % Extern.MathBitsCarry.m64) (if x<y+b then 1 else 0))
theorem run_subEntry {P:Program} (x y b:Nat) (hb:b≤1) (w:World) :
    (subEntry #[.int .u64 x,.int .u64 y,.int .u64 b]).run P w =
      .ok (.tuple #[.int .u64 (((x+18446744073709551616 - y - b) % 18446744073709551616:Nat):Int),.int .u64 ((if x<y+b then 1 else 0:Nat):Int)]) w:=by
  have:b=0∨b=1:=by omega
  rcases this with rfl | rfl <;> rfl
/-- The borrow, under a name. -/
def bor (x y:Int):Int:=if x<y then 1 else 0
theorem bor_01 (x y:Int):0≤bor x y∧bor x y≤1:=by unfold bor;split <;> decide
theorem sub64 (x y b:Int) (hx:0≤x) (hy:0≤y) (hy':y<18446744073709551616) (hb0:0≤b) (hb:b≤1) (w:World):(callFunc 110 #[.int .u64 x,.int .u64 y,.int .u64 b]).run Tryz.prog w =
    .ok (.value (.tuple #[.int .u64 ((x - y - b) % 18446744073709551616),.int .u64 (bor x (y+b))])) w:=by
  obtain ⟨x,rfl⟩:=Int.eq_ofNat_of_zero_le hx
  obtain ⟨y,rfl⟩:=Int.eq_ofNat_of_zero_le hy
  obtain ⟨b,rfl⟩:=Int.eq_ofNat_of_zero_le hb0
  have e1:(((x+18446744073709551616 - y - b) % 18446744073709551616:Nat):Int)=((x:Int) - y - b) % 18446744073709551616:=by omega
  have e2:((if x<y+b then 1 else 0:Nat):Int)=bor (x:Int) (y+b):=by unfold bor;split <;> split <;> omega
  rw [run_callFunc_extern Tryz.func110 (by kernel_rfl) (by kernel_rfl) (by kernel_rfl) (e:=subEntry) (by kernel_rfl),run_subEntry x y b (by omega),e1,e2]
  rfl
theorem sub64_0 (x y:Int) (hx:0≤x) (hy:0≤y) (hy':y<18446744073709551616) (w:World):(callFunc 110 #[.int .u64 x,.int .u64 y,.int .u64 0]).run Tryz.prog w =
    .ok (.value (.tuple #[.int .u64 ((x - y) % 18446744073709551616),.int .u64 (bor x y)])) w:=by
  simpa using sub64 x y 0 hx hy hy' (Int.le_refl 0) (by decide) w

end Go.Proofs.YtafkoddgefcpnaaGreat

namespace Go.Proofs.YtafkoddgefcpnaaGreat
open Go.RowKit

theorem len8_at (x y:Int) (k:Nat) (h0:0≤x) (h1:x<18446744073709551616) (hy:y=x / ((2 ^ k:Nat):Int)) (hy1:y<256) (hk:k=0∨2 ^ k≤x.toNat) :
    Lib.len8 y+(k:Int)=(Lib.bitLen x.toNat:Int)∧0≤Lib.len8 y∧Lib.len8 y≤8∧0≤y∧y≤255:=by
  have hp:0<2 ^ k:=Nat.pow_pos (by decide)
  have hy0:0≤y:=by rw [hy];exact Int.ediv_nonneg h0 (by omega)
  have l:=Lib.bitLen_le8' y hy0 (by omega)
  rw [Lib.len8_of y hy0 (by omega)]
  have ey:y.toNat=x.toNat / 2 ^ k:=by
    obtain ⟨n,rfl⟩:=Int.eq_ofNat_of_zero_le h0
    rw [hy,show ((n:Int) / ((2 ^ k:Nat):Int))=((n / 2 ^ k:Nat):Int) from rfl,Int.toNat_natCast,Int.toNat_natCast]
  rw [ey] at l ⊢
  rcases hk with rfl | hk
  · simp at l ⊢;omega
  · have s:=Lib.bitLen_shift k x.toNat hk (by omega)
    omega

set_option maxHeartbeats 4000000 in
set_option maxRecDepth 100000 in
theorem len64_any (x:Int) (hx:Word x) (w:World) :
    Calls Tryz.prog 131 #[.int .u64 x] w fun e w'=>e=.returned (.int .i64 (Lib.bitLen x.toNat:Int))∧w=w':=by
  obtain ⟨h0,h1⟩:=hx
  by_cases c1:4294967296≤x
  · by_cases c2:65536≤x / 4294967296
    · by_cases c3:256≤x / 4294967296 / 65536
      · obtain ⟨e,l0,l1,y0,y1⟩:=len8_at x (x / 4294967296 / 65536 / 256) 56 h0 h1 (by omega) (by omega) (Or.inr (by omega))
        replace e:=Lib.hid e
        go_enter Tryz.func131,Tryz.ntmps131
        go_wp2
        go_ret
        exact ⟨congrArg Ending.returned (congrArg (Value.int IntKind.i64) (by have:=e.out;omega)),rfl⟩
      · obtain ⟨e,l0,l1,y0,y1⟩:=len8_at x (x / 4294967296 / 65536) 48 h0 h1 (by omega) (by omega) (Or.inr (by omega))
        replace e:=Lib.hid e
        go_enter Tryz.func131,Tryz.ntmps131
        go_wp2
        go_ret
        exact ⟨congrArg Ending.returned (congrArg (Value.int IntKind.i64) (by have:=e.out;omega)),rfl⟩
    · by_cases c3:256≤x / 4294967296
      · obtain ⟨e,l0,l1,y0,y1⟩:=len8_at x (x / 4294967296 / 256) 40 h0 h1 (by omega) (by omega) (Or.inr (by omega))
        replace e:=Lib.hid e
        go_enter Tryz.func131,Tryz.ntmps131
        go_wp2
        go_ret
        exact ⟨congrArg Ending.returned (congrArg (Value.int IntKind.i64) (by have:=e.out;omega)),rfl⟩
      · obtain ⟨e,l0,l1,y0,y1⟩:=len8_at x (x / 4294967296) 32 h0 h1 (by omega) (by omega) (Or.inr (by omega))
        replace e:=Lib.hid e
        go_enter Tryz.func131,Tryz.ntmps131
        go_wp2
        go_ret
        exact ⟨congrArg Ending.returned (congrArg (Value.int IntKind.i64) (by have:=e.out;omega)),rfl⟩
  · by_cases c2:65536≤x
    · by_cases c3:256≤x / 65536
      · obtain ⟨e,l0,l1,y0,y1⟩:=len8_at x (x / 65536 / 256) 24 h0 h1 (by omega) (by omega) (Or.inr (by omega))
        replace e:=Lib.hid e
        go_enter Tryz.func131,Tryz.ntmps131
        go_wp2
        go_ret
        exact ⟨congrArg Ending.returned (congrArg (Value.int IntKind.i64) (by have:=e.out;omega)),rfl⟩
      · obtain ⟨e,l0,l1,y0,y1⟩:=len8_at x (x / 65536) 16 h0 h1 (by omega) (by omega) (Or.inr (by omega))
        replace e:=Lib.hid e
        go_enter Tryz.func131,Tryz.ntmps131
        go_wp2
        go_ret
        exact ⟨congrArg Ending.returned (congrArg (Value.int IntKind.i64) (by have:=e.out;omega)),rfl⟩
    · by_cases c3:256≤x
      · obtain ⟨e,l0,l1,y0,y1⟩:=len8_at x (x / 256) 8 h0 h1 (by omega) (by omega) (Or.inr (by omega))
        replace e:=Lib.hid e
        go_enter Tryz.func131,Tryz.ntmps131
        go_wp2
        go_ret
        exact ⟨congrArg Ending.returned (congrArg (Value.int IntKind.i64) (by have:=e.out;omega)),rfl⟩
      · obtain ⟨e,l0,l1,y0,y1⟩:=len8_at x x 0 h0 h1 (by omega) (by omega) (Or.inl rfl)
        replace e:=Lib.hid e
        go_enter Tryz.func131,Tryz.ntmps131
        go_wp2
        go_ret
        exact ⟨congrArg Ending.returned (congrArg (Value.int IntKind.i64) (by have:=e.out;omega)),rfl⟩

/-- The zeros at the front of a word. -/
def lz (x:Int):Int:=64 - (Lib.bitLen x.toNat:Int)
theorem bitLen_spec:∀ (f x:Nat),x<2 ^ f→x<2 ^ Lib.bitLenAux f x∧(x ≠ 0→2 ^ Lib.bitLenAux f x≤2 * x)
  | 0,x,h=>by
    have:x=0:=by simpa using h
    subst this;simp [Lib.bitLenAux]
  | f+1,x,h=>by
    rw [Lib.bitLenAux]
    by_cases hx:x=0
    · rw [if_pos hx];subst hx;simp
    · rw [if_neg hx]
      have i:=bitLen_spec f (x / 2) (by rw [Nat.pow_succ] at h;omega)
      rw [Nat.add_comm,Nat.pow_succ]
      refine ⟨by omega,fun _=>?_⟩
      by_cases h2:x / 2=0
      · have:x=1:=by omega
        subst this
        have:Lib.bitLenAux f (1 / 2)=0:=by cases f <;> simp [Lib.bitLenAux]
        rw [this];decide
      · have:=i.2 h2;omega
theorem lz_bound {x:Int} (hx:Word x):0≤lz x∧lz x≤64:=by
  obtain ⟨h0,h1⟩:=hx
  have:=Lib.bitLen_le x.toNat 64 (by decide) (by omega)
  unfold lz;omega
theorem lz_pos {x:Int} (hx:Word x) (h:x ≠ 0):lz x≤63:=by
  obtain ⟨h0,h1⟩:=hx
  have hs:=(bitLen_spec 64 x.toNat (by omega)).1
  have:Lib.bitLen x.toNat ≠ 0:=fun e=>by
    unfold Lib.bitLen at e;rw [e] at hs;simp at hs;omega
  unfold lz;omega
/-- Shifted by its zeros a word has its first bit set. -/
theorem lz_spec {x:Int} (hx:Word x) (h:x ≠ 0):9223372036854775808≤x * ((2 ^ (lz x).toNat:Nat):Int)∧x * ((2 ^ (lz x).toNat:Nat):Int)<18446744073709551616:=by
  have hl:=lz_bound hx
  have hp:=lz_pos hx h
  obtain ⟨h0,h1⟩:=hx
  obtain ⟨s1,s2⟩:=bitLen_spec 64 x.toNat (by omega)
  have s3:=s2 (by omega)
  have e:(lz x).toNat=64 - Lib.bitLen x.toNat:=by unfold lz;omega
  have hb:Lib.bitLen x.toNat≤64:=by unfold lz at hl;omega
  have eb:Lib.bitLenAux 64 x.toNat=Lib.bitLen x.toNat:=rfl
  rw [eb] at s1 s3
  rw [e]
  generalize Lib.bitLen x.toNat=b at *
  have ep:2 ^ b * 2 ^ (64 - b)=18446744073709551616:=by rw [← Nat.pow_add,show b+(64 - b)=64 by omega]
  obtain ⟨n,rfl⟩:=Int.eq_ofNat_of_zero_le h0
  rw [Int.toNat_natCast] at s1 s3
  have p:0<2 ^ (64 - b):=Nat.pow_pos (by decide)
  have m1:n * 2 ^ (64 - b)<2 ^ b * 2 ^ (64 - b):=Nat.mul_lt_mul_of_pos_right s1 p
  have m2:2 ^ b * 2 ^ (64 - b)≤2 * n * 2 ^ (64 - b):=Nat.mul_le_mul_right _ s3
  rw [Nat.mul_assoc] at m2
  rw [ep] at m1 m2
  rw [← Int.natCast_mul]
  omega

theorem lead_any (x:Int) (hx:Word x) (w:World) :
    Calls Tryz.prog 127 #[.int .u64 x] w fun e w'=>e=.returned (.int .i64 (lz x))∧w=w':=by
  obtain ⟨l0,l1⟩:=lz_bound hx
  have H:=Lib.hid (show lz x=64 - (Lib.bitLen x.toNat:Int) from rfl)
  have k0:0≤(Lib.bitLen x.toNat:Int):=by omega
  have k1:(Lib.bitLen x.toNat:Int)≤64:=by have:=H.out;omega
  clear l0 l1
  generalize hb:(Lib.bitLen x.toNat:Int)=b at k0 k1
  have HB:=Lib.hid hb
  clear hb
  go_enter Tryz.func127,Tryz.ntmps127
  go_wp2_with fail
  refine (len64_any x hx _).mono ?_
  rintro e w' ⟨rfl,rfl⟩
  rw [HB.out]
  go_wp2
  go_ret
  exact ⟨by rw [H.out,HB.out];rfl,rfl⟩

end Go.Proofs.YtafkoddgefcpnaaGreat

namespace Go.Proofs.YtafkoddgefcpnaaGreat

/-- An int64 number. -/
def In (x:Int):Prop := -9223372036854775808≤x∧x≤9223372036854775807
def fits (x:Int):Bool:=decide (-9223372036854775808≤x∧x≤9223372036854775807)
def fit (x:Int):Int:=if fits x=true then x else 0

theorem fits_yes {x:Int} (h:In x):fits x=true:=by unfold fits;exact decide_eq_true h
theorem fits_no {x:Int} (h:¬ In x):fits x=false:=by unfold fits;exact decide_eq_false h
theorem fit_yes {x:Int} (h:In x):fit x=x:=by unfold fit;rw [if_pos (fits_yes h)]
theorem fit_no {x:Int} (h:¬ In x):fit x=0:=by unfold fit;rw [fits_no h];rfl
/-! ### Quotients -/
/-! ### The quotients rounded down and up, and the remainder -/
def rest (a b:Int):Int:=if a.tmod b ≠ 0∧¬ (a<0 ↔ b<0) then a.tmod b+b else a.tmod b
/-! ### Products -/
/-- What stays of x in 64 bits with a sign. -/
def wr (x:Int):Int:=(x+9223372036854775808) % 18446744073709551616 - 9223372036854775808
/-! ### The greatest common divisor -/
def gcdZ (x y:Int):Int:=(Nat.gcd x.toNat y.toNat:Nat)
theorem gcdZ_step (x y:Int) (hx:0≤x) (hy:0<y):gcdZ y (x % y)=gcdZ x y:=by
  obtain ⟨m,rfl⟩:=Int.eq_ofNat_of_zero_le hx
  obtain ⟨n,rfl⟩:=Int.eq_ofNat_of_zero_le (Int.le_of_lt hy)
  unfold gcdZ
  rw [show ((m:Int) % (n:Int))=((m % n:Nat):Int) from rfl,Int.toNat_natCast,Int.toNat_natCast,Int.toNat_natCast,Nat.gcd_comm m n,Nat.gcd_rec n m,Nat.gcd_comm n (m % n)]
theorem gcdZ_zero (x:Int) (hx:0≤x):gcdZ x 0=x:=by
  unfold gcdZ
  simp
  omega
theorem gcdZ_dvd (x y:Int) (hx:0≤x) (hy:0≤y):gcdZ x y ∣ x∧gcdZ x y ∣ y:=by
  obtain ⟨m,rfl⟩:=Int.eq_ofNat_of_zero_le hx
  obtain ⟨n,rfl⟩:=Int.eq_ofNat_of_zero_le hy
  unfold gcdZ
  rw [Int.toNat_natCast,Int.toNat_natCast]
  exact ⟨Int.natCast_dvd_natCast.2 (Nat.gcd_dvd_left m n),Int.natCast_dvd_natCast.2 (Nat.gcd_dvd_right m n)⟩
/-! ### Powers -/
/-! ### Square roots -/
/-! ### Binary digits -/
def bitsN:Nat→Nat→Nat
  | 0,_=>0
  | f+1,n=>if n=0 then 0 else bitsN f (n / 2)+1
/-- The number of binary digits of n; 0 if n is negative. -/
def bitsZ (n:Int):Int:=(bitsN n.toNat n.toNat:Nat)
theorem bitsN_fuel (f g n:Nat) (hf:n≤f) (hg:n≤g):bitsN f n=bitsN g n:=by
  induction f generalizing g n with
  | zero => have : n = 0 := by omega
            subst this;cases g <;> simp [bitsN]
  | succ f ih =>
    cases g with
    | zero => have : n = 0 := by omega
              subst this;simp [bitsN]
    | succ g =>
      by_cases h:n=0
      · simp [bitsN,h]
      · simp only [bitsN,if_neg h]
        rw [ih g (n / 2) (by omega) (by omega)]
theorem bitsZ_step (n:Int) (h:0<n):bitsZ n=bitsZ (n / 2)+1:=by
  obtain ⟨m,rfl⟩:=Int.eq_ofNat_of_zero_le (Int.le_of_lt h)
  have hm:0<m:=by omega
  have e:((m:Int) / 2).toNat=m / 2:=by omega
  unfold bitsZ
  rw [e,Int.toNat_natCast]
  cases m with
  | zero=>omega
  | succ k =>
    rw [show bitsN (k+1) (k+1)=bitsN k ((k+1) / 2)+1 from by simp [bitsN]]
    rw [bitsN_fuel k ((k+1) / 2) ((k+1) / 2) (by omega) (by omega)]
    omega
theorem bitsZ_low (n:Int) (h:n≤0):bitsZ n=0:=by
  unfold bitsZ
  rw [show n.toNat=0 from by omega];rfl
theorem bitsN_le (f n:Nat):bitsN f n≤n:=by
  induction f generalizing n with
  | zero=>simp [bitsN]
  | succ f ih =>
    unfold bitsN
    split
    · omega
    · have:=ih (n / 2);omega
theorem bitsZ_bound (n:Int):0≤bitsZ n∧(0≤n→bitsZ n≤n)∧(n<0→bitsZ n=0):=by
  unfold bitsZ
  have:=bitsN_le n.toNat n.toNat
  omega
end Go.Proofs.YtafkoddgefcpnaaGreat

namespace Go.Proofs.YtafkoddgefcpnaaGreat

/-- The i-th word of a number. -/
def dg3 (v:Int) (i:Nat):Int:=v / 18446744073709551616 ^ i % 18446744073709551616
def updz (z:Nat→Int) (i:Nat) (t:Int):Nat→Int:=fun j=>if j=i then t else z j
end Go.Proofs.YtafkoddgefcpnaaGreat

namespace Go.Proofs.YtafkoddgefcpnaaGreat
open Go.RowKit

/-- A checked result: the number and true, or 0 and false. -/
abbrev got (x:Int) (ok:Bool):Ending:=.returned (.tuple #[.int .i64 x,.bool ok])

/-! ### The reference's sums -/
end Go.Proofs.YtafkoddgefcpnaaGreat

namespace Go.Proofs.YtafkoddgefcpnaaGreat

/-- The number of four words, the least first. -/
def W4 (a b c d:Int):Int:=a+b * 18446744073709551616+c * 340282366920938463463374607431768211456+d * 6277101735386680763835789423207666416102355444464034512896
/-- The words of a number. -/
def g0 (v:Int):Int:=v % 18446744073709551616
def g1 (v:Int):Int:=v / 18446744073709551616 % 18446744073709551616
def g2 (v:Int):Int:=v / 340282366920938463463374607431768211456 % 18446744073709551616
def g3 (v:Int):Int:=v / 6277101735386680763835789423207666416102355444464034512896 % 18446744073709551616
end Go.Proofs.YtafkoddgefcpnaaGreat

namespace Go.Proofs.YtafkoddgefcpnaaGreat

/-- In lowest terms. -/
def validB (n d:Int):Bool:=decide (1≤d∧Nat.gcd n.natAbs d.natAbs=1)
theorem validB_yes {n d:Int} (h1:1≤d) (h2:Nat.gcd n.natAbs d.natAbs=1):validB n d=true:=by unfold validB;exact decide_eq_true ⟨h1,h2⟩
theorem validB_low {n d:Int} (h:d<1):validB n d=false:=by unfold validB;exact decide_eq_false (by omega)
theorem validB_eq {n d:Int} (h:1≤d):validB n d=decide (Nat.gcd n.natAbs d.natAbs=1):=by
  unfold validB;by_cases g:Nat.gcd n.natAbs d.natAbs=1
  · rw [decide_eq_true g,decide_eq_true ⟨h,g⟩]
  · rw [decide_eq_false g,decide_eq_false (fun x=>g x.2)]

/-- The number of a sign and a magnitude. -/
def sz (s:Bool) (v:Int):Int:=if s=true then -v else v
theorem sz_true (v:Int):sz true v=-v:=rfl
theorem sz_false (v:Int):sz false v=v:=rfl
theorem sz_abs (s:Bool) (v:Int):(sz s v).natAbs=v.natAbs:=by cases s <;> simp [sz_true,sz_false]
theorem sz_of (a:Int):sz (decide (a<0)) (a.natAbs:Int)=a:=by
  by_cases h:a<0
  · rw [decide_eq_true h,sz_true];omega
  · rw [decide_eq_false h,sz_false];omega
theorem sz_mul (s t:Bool) (x y:Int):sz (s != t) (x * y)=sz s x * sz t y:=by
  cases s <;> cases t
  · rfl
  · show -(x * y)=x * -y;rw [Int.mul_neg]
  · show -(x * y)=-x * y;rw [Int.neg_mul]
  · show x * y=-x * -y;rw [Int.neg_mul_neg]
theorem sz_prod (a b:Int):sz (decide (a<0) != decide (b<0)) ((a.natAbs:Int) * (b.natAbs:Int))=a * b:=by
  rw [sz_mul,sz_of,sz_of]

/-- The greatest common divisor of two numbers of any sign. -/
def quoG (p q:Int):Int:=(Nat.gcd p.natAbs q.natAbs:Nat)
/-- The parts of p / q in lowest terms. -/
def quoP (p q:Int):Int:=(if q<0 then -p else p) / quoG p q
def quoQ (p q:Int):Int:=(q.natAbs:Int) / quoG p q
def quoB (p q:Int):Bool:=decide (q ≠ 0) && (fits (quoP p q) && fits (quoQ p q))
def quoN (p q:Int):Int:=if quoB p q=true then quoP p q else 0
def quoD (p q:Int):Int:=if quoB p q=true then quoQ p q else 0

theorem quoG_pos {p q:Int} (h:q ≠ 0):0<quoG p q:=by
  unfold quoG
  have:=Nat.gcd_pos_of_pos_right p.natAbs (show 0<q.natAbs by omega)
  omega
theorem quoG_left (p q:Int):quoG p q ∣ p:=by
  unfold quoG
  exact Int.dvd_natAbs.1 (Int.natCast_dvd_natCast.2 (Nat.gcd_dvd_left _ _))
theorem quoG_right (p q:Int):quoG p q ∣ (q.natAbs:Int):=by
  unfold quoG
  exact Int.natCast_dvd_natCast.2 (Nat.gcd_dvd_right _ _)
theorem quo_zero (p:Int):quoB p 0=false∧quoN p 0=0∧quoD p 0=0:=by
  have:quoB p 0=false:=by simp [quoB]
  refine ⟨this,?_,?_⟩
  · unfold quoN;rw [this];rfl
  · unfold quoD;rw [this];rfl
/-- The numerator without its sign, and the denominator. -/
theorem quo_parts (s t:Bool) (x y:Int) (hx:0≤x) (hy:0<y) :
    quoP (sz s x) (sz t y)=sz (s != t) (x / gcdZ x y)∧quoQ (sz s x) (sz t y)=y / gcdZ x y:=by
  have eg:quoG (sz s x) (sz t y)=gcdZ x y:=by
    unfold quoG gcdZ
    rw [sz_abs,sz_abs]
    obtain ⟨m,rfl⟩:=Int.eq_ofNat_of_zero_le hx
    obtain ⟨n,rfl⟩:=Int.eq_ofNat_of_zero_le (Int.le_of_lt hy)
    rfl
  have hd:gcdZ x y ∣ x:=(gcdZ_dvd x y hx (Int.le_of_lt hy)).1
  have ey:((sz t y).natAbs:Int)=y:=by rw [sz_abs];omega
  refine ⟨?_,?_⟩
  · unfold quoP
    rw [eg]
    cases s <;> cases t
    · rw [sz_false,sz_false,if_neg (by omega)];rfl
    · rw [sz_false,sz_true,if_pos (by omega),Int.neg_ediv_of_dvd hd];rfl
    · rw [sz_true,sz_false,if_neg (by omega),Int.neg_ediv_of_dvd hd];rfl
    · rw [sz_true,sz_true,if_pos (by omega),Int.neg_neg];rfl
  · unfold quoQ;rw [eg,ey]

theorem quo_eq {p q:Int} (h:q ≠ 0):quoP p q * q=p * quoQ p q:=by
  obtain ⟨k,hk⟩:=quoG_left p q
  obtain ⟨m,hm⟩:=quoG_right p q
  have hg:=quoG_pos (p:=p) h
  unfold quoP quoQ
  generalize quoG p q=g at *
  have e2:(q.natAbs:Int) / g=m:=by rw [hm];exact Int.mul_ediv_cancel_left m (by omega)
  rw [e2]
  by_cases hn:q<0
  · have eq:q=-(g * m):=by omega
    have e1:-p / g=-k:=by rw [hk,← Int.mul_neg];exact Int.mul_ediv_cancel_left (-k) (by omega)
    rw [if_pos hn,e1,eq,hk,Int.neg_mul_neg]
    simp [Int.mul_comm,Int.mul_left_comm]
  · have eq:q=g * m:=by omega
    have e1:p / g=k:=by rw [hk];exact Int.mul_ediv_cancel_left k (by omega)
    rw [if_neg hn,e1,eq,hk]
    simp [Int.mul_comm,Int.mul_left_comm]
theorem quoQ_pos {p q:Int} (h:q ≠ 0):1≤quoQ p q:=by
  obtain ⟨m,hm⟩:=quoG_right p q
  have hg:=quoG_pos (p:=p) h
  unfold quoQ
  generalize quoG p q=g at *
  rw [hm,Int.mul_ediv_cancel_left m (by omega)]
  have h1:0<g * m:=by omega
  have:=Int.pos_of_mul_pos_right h1 (by omega)
  omega
theorem quo_coprime {p q:Int} (h:q ≠ 0):Nat.gcd (quoP p q).natAbs (quoQ p q).natAbs=1:=by
  have hg:=quoG_pos (p:=p) h
  have e1:(quoP p q).natAbs=p.natAbs / (quoG p q).natAbs:=by
    unfold quoP
    have hd:=quoG_left p q
    by_cases hn:q<0
    · rw [if_pos hn,Int.natAbs_ediv_of_dvd ((Int.dvd_neg).2 hd),Int.natAbs_neg]
    · rw [if_neg hn,Int.natAbs_ediv_of_dvd hd]
  have e2:(quoQ p q).natAbs=q.natAbs / (quoG p q).natAbs:=by
    unfold quoQ
    rw [Int.natAbs_ediv_of_dvd (quoG_right p q)];rfl
  rw [e1,e2]
  have e3:(quoG p q).natAbs=Nat.gcd p.natAbs q.natAbs:=by unfold quoG;omega
  rw [e3]
  exact Nat.coprime_div_gcd_div_gcd (Nat.gcd_pos_of_pos_right _ (by omega))
/-- There is one number in lowest terms that equals p / q. -/
theorem quo_uniq {p q n d:Int} (h:q ≠ 0) (h1:1≤d) (h2:Nat.gcd n.natAbs d.natAbs=1) (e:p * d=n * q):quoP p q=n∧quoQ p q=d:=by
  have e1:=quo_eq (p:=p) h
  have e2:=quoQ_pos (p:=p) h
  have e3:=quo_coprime (p:=p) h
  generalize quoP p q=N at *
  generalize quoQ p q=D at *
  have e4:N * d=n * D:=by
    have:q * (N * d)=q * (n * D):=by
      have t1:q * (N * d)=N * q * d:=by simp [Int.mul_comm,Int.mul_left_comm]
      have t2:q * (n * D)=n * q * D:=by simp [Int.mul_comm,Int.mul_left_comm]
      rw [t1,t2,e1,← e]
      simp [Int.mul_comm,Int.mul_left_comm]
    exact Int.eq_of_mul_eq_mul_left h this
  have e5:N.natAbs * d.natAbs=n.natAbs * D.natAbs:=by
    have:=congrArg Int.natAbs e4
    rw [Int.natAbs_mul,Int.natAbs_mul] at this;exact this
  have a1:d.natAbs ∣ D.natAbs:=Nat.Coprime.dvd_of_dvd_mul_left (Nat.Coprime.symm h2) (show d.natAbs ∣ n.natAbs * D.natAbs from ⟨N.natAbs,by rw [← e5,Nat.mul_comm]⟩)
  have a2:D.natAbs ∣ d.natAbs:=Nat.Coprime.dvd_of_dvd_mul_left (Nat.Coprime.symm e3) (show D.natAbs ∣ N.natAbs * d.natAbs from ⟨n.natAbs,by rw [e5,Nat.mul_comm]⟩)
  have a3:=Nat.dvd_antisymm a1 a2
  have a4:D=d:=by omega
  refine ⟨?_,a4⟩
  rw [a4] at e4
  exact Int.eq_of_mul_eq_mul_right (by omega) e4
theorem quo_yes {p q:Int} (h:quoB p q=true):q ≠ 0∧In (quoN p q)∧In (quoD p q)∧validB (quoN p q) (quoD p q)=true∧quoN p q * q=p * quoD p q:=by
  have hh:=h
  unfold quoB at hh
  rw [Bool.and_eq_true,Bool.and_eq_true] at hh
  obtain ⟨h1,h2,h3⟩:=hh
  have h0:=of_decide_eq_true h1
  unfold fits at h2 h3
  have e1:quoN p q=quoP p q:=by unfold quoN;rw [if_pos h]
  have e2:quoD p q=quoQ p q:=by unfold quoD;rw [if_pos h]
  rw [e1,e2]
  have i2:In (quoP p q):=(of_decide_eq_true h2:_∧_)
  have i3:In (quoQ p q):=(of_decide_eq_true h3:_∧_)
  exact ⟨h0,i2,i3,validB_yes (quoQ_pos h0) (quo_coprime h0),quo_eq h0⟩
theorem quo_no {p q:Int} (h:quoB p q=false):quoN p q=0∧quoD p q=0:=by
  unfold quoN quoD;rw [h];exact ⟨rfl,rfl⟩
end Go.Proofs.YtafkoddgefcpnaaGreat
