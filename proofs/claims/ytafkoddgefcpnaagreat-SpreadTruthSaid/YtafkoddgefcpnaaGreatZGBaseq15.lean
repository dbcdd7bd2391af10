/- Texts of these claims, one after the other. -/
import Derived.Test.YtafkoddgefcpnaaGreatRows
import Derived.Test.YtafkoddgefcpnaaGreatZBKeepq12
import Derived.Test.YtafkoddgefcpnaaGreatZGBaseq13
namespace Go.Proofs.YtafkoddgefcpnaaGreat
open Go.RowKit

theorem fl_length (L:List It):(fl L).length=L.length * 2:=by
  induction L with
  | nil=>rfl
  | cons p L ih=>simp [fl,ih];omega
theorem fl_append (L M:List It):fl (L ++ M)=fl L ++ fl M:=by
  induction L with
  | nil=>rfl
  | cons p L ih=>simp [fl,ih]
theorem fl_one (L:List It):∀ u ∈ fl L,u.oneCell'=true:=by
  induction L with
  | nil=>intro u hu;cases hu
  | cons p L ih =>
    intro u hu
    simp only [fl,List.mem_cons] at hu
    rcases hu with rfl | rfl | hu
    · rfl
    · rfl
    · exact ih u hu
section
variable {w w' : World} {g : Nat} {t : TypeId} {cs : Array Value}
end
theorem Bi.sl {w:World} {g n:Nat} {L:List It} (h:Bi w g L) (hn:L.length=n):Sl w (some ⟨g,0,none⟩) n L :=
  ⟨hn,fun _=>⟨g,0,rfl,fun j u hj=>by rw [Nat.zero_add,Blk.cell h j];simpa using hj⟩⟩
end Go.Proofs.YtafkoddgefcpnaaGreat

namespace Go.Proofs.YtafkoddgefcpnaaGreat
open Go.ChangeShapes Go.WideShapes Go.ChangeAt Go.RowKit Go.Joins Go.Deep

theorem item_cells:Tryz.prog.cellsOf 45=2:=by kernel_rfl
theorem int64_cells:Tryz.prog.cellsOf 2=1:=by kernel_rfl
section
variable {H : Type} {enc : TypeId × Value → H} {w : World} {base : Nat} {spare : Nat → Bool} {held : Bool}
end
end Go.Proofs.YtafkoddgefcpnaaGreat

namespace Go.Proofs.YtafkoddgefcpnaaGreat

/-- The greatest aggregate. -/
def topG (g c:Int):Int:=if g=1 then c else if g=2 then c * 4096 else if g=3 then c * 4096 * 4096 else 8192
theorem ag_top {g c:Int} {A:List Int} (hg:1≤g∧g≤4) (h:∀ x ∈ A,valG g x) (hc:(A.length:Int)≤c):agZ g A≤topG g c:=by
  have:g=1∨g=2∨g=3∨g=4:=by omega
  rcases this with rfl | rfl | rfl | rfl
  · exact hc
  · have h1:=suL_le (A:=A) (b:=4096) (fun x hx=>(h x hx).2.1)
    show suL A≤c * 4096
    omega
  · have h1:=sqL_le (A:=A) (m:=4096) (fun x hx=>⟨(h x hx).1,(h x hx).2.1⟩)
    show sqL A≤c * 4096 * 4096
    omega
  · show mxL A - mnL A≤8192
    by_cases hA:A=[]
    · subst hA;simp [mxL,mnL]
    · have h1:=h _ (mnL_mem hA)
      have h2:=h _ (mxL_mem hA)
      have:=h1.1;have:=h2.2.1;omega
end Go.Proofs.YtafkoddgefcpnaaGreat

namespace Go.Proofs.YtafkoddgefcpnaaGreat

theorem drL_map {α β:Type} (f:α→β) (lv:β→Bool):∀ R:List α,drL lv (R.map f)=(drL (fun x=>lv (f x)) R).map f:=by
  intro R
  induction R with
  | nil=>rfl
  | cons a R ih =>
    cases R with
    | nil=>simp only [List.map_cons,List.map_nil,drL];split <;> rfl
    | cons b R =>
      simp only [List.map_cons,drL]
      split
      · rfl
      · exact ih
theorem drL_suffix {α:Type} (lv:α→Bool):∀ R:List α,∃ Q,R=Q ++ drL lv R:=by
  intro R
  induction R with
  | nil=>exact ⟨[],rfl⟩
  | cons a R ih =>
    cases R with
    | nil =>
      simp only [drL]
      split
      · exact ⟨[],rfl⟩
      · exact ⟨[a],rfl⟩
    | cons b R =>
      simp only [drL]
      split
      · exact ⟨[],rfl⟩
      · obtain ⟨Q,e⟩:=ih;exact ⟨a :: Q,by rw [List.cons_append,← e]⟩
theorem cutL_map {α β:Type} (g:α→β) (f:β→Bool):∀ R:List α,cutL f (R.map g)=(cutL (fun x=>f (g x)) R).map g:=by
  intro R
  induction R with
  | nil=>rfl
  | cons x R ih =>
    simp only [List.map_cons,cutL,List.any_map]
    split
    next h=>rw [if_pos (show (R.any fun x=>f (g x))=true from h)];exact ih
    next h=>rw [if_neg (show ¬ (R.any fun x=>f (g x))=true from h)];rfl
theorem prL_map {α β:Type} (g:α→β) (cl:β→β→Bool):∀ (n:Nat) (R:List α),prL cl n (R.map g)=(prL (fun x y=>cl (g x) (g y)) n R).map g:=by
  intro n
  induction n with
  | zero=>intro R;rfl
  | succ n ih =>
    intro R
    cases R with
    | nil=>rfl
    | cons a R=>simp only [List.map_cons,prL];rw [cutL_map,ih]
end Go.Proofs.YtafkoddgefcpnaaGreat

namespace Go.Proofs.YtafkoddgefcpnaaGreat
open Go.RowKit

theorem modm_any (a n:Int) (hn:1≤n) (hn':n≤10000) (w:World) :
    Calls Tryz.prog 20 #[.int .i64 a,.int .i64 n] w fun e w'=>e=.returned (.int .i64 (a % n))∧w=w':=by
  have t0:(n == 0)=false:=by simp;omega
  have h1:=Int.tmod_eq_emod (a:=a) (b:=n)
  have h2:0≤a % n:=Int.emod_nonneg _ (by omega)
  have h3:a % n<n:=Int.emod_lt_of_pos _ (by omega)
  have z0:¬ n=0:=by omega
  by_cases hs:a.tmod n<0
  · have t1:decide (a.tmod n<0)=true:=decide_eq_true hs
    have HE:Hid (a % n=a.tmod n+n):=Lib.hid (by
      by_cases hz:0≤a∨n ∣ a
      · rw [if_pos hz] at h1;omega
      · rw [if_neg hz] at h1;have:(n.natAbs:Int)=n:=by omega
        omega)
    have b1:-10000≤a.tmod n:=by have:=HE.out;omega
    generalize hr:a % n=r at *
    clear h1 h2 h3 hr
    have HEE:=Lib.hid HE.out
    have k1:IntKind.i64.wrap (a.tmod n)=a.tmod n:=IntWalk.i64_in _ (by omega)
    have k2:IntKind.i64.wrap (a.tmod n+n)=a.tmod n+n:=IntWalk.i64_in _ (by omega)
    clear HE
    go_enter Tryz.func20,Tryz.ntmps20
    go_wp2
    go_ret
    exact ⟨by rw [HEE.out];rfl,rfl⟩
  · have t1:decide (a.tmod n<0)=false:=decide_eq_false hs
    have HE:Hid (a % n=a.tmod n):=Lib.hid (by
      by_cases hz:0≤a∨n ∣ a
      · rw [if_pos hz] at h1;omega
      · rw [if_neg hz] at h1;have:(n.natAbs:Int)=n:=by omega
        omega)
    have b1:a.tmod n≤10000:=by have:=HE.out;omega
    generalize hr:a % n=r at *
    clear h1 h2 h3 hr
    have HEE:=Lib.hid HE.out
    have k1:IntKind.i64.wrap (a.tmod n)=a.tmod n:=IntWalk.i64_in _ (by omega)
    clear HE
    go_enter Tryz.func20,Tryz.ntmps20
    go_wp2
    go_ret
    exact ⟨by rw [HEE.out];rfl,rfl⟩
end Go.Proofs.YtafkoddgefcpnaaGreat
