/- What ratio.sum returns. -/
import Derived.Test.YtafkoddgefcpnaaGreatRows
import Derived.Test.YtafkoddgefcpnaaGreatZRQuoq125
import Derived.Test.YtafkoddgefcpnaaGreatZRValidq124
namespace Go.Proofs.YtafkoddgefcpnaaGreat
open Go.RowKit

theorem add_v (x y:Int) (hx:In2 x) (hy:In2 y) (h:In2 (x+y)) (w:World) :
    Calls Tryz.prog 93 #[.agg #[.int .u64 (hiZ x),.int .u64 (loZ x)],.agg #[.int .u64 (hiZ y),.int .u64 (loZ y)]] w fun e w'=>e=got2 (x+y) true∧Up w w':=by
  have g:=add_up (hiZ x) (loZ x) (hiZ y) (loZ y) (hiZ_word hx) (loZ_word x) (hiZ_word hy) (loZ_word y) w
  rw [val_hilo,val_hilo,fit2_yes h,fits2_yes h] at g
  exact g
theorem sub_v (x y:Int) (hx:In2 x) (hy:In2 y) (h:In2 (x - y)) (w:World) :
    Calls Tryz.prog 95 #[.agg #[.int .u64 (hiZ x),.int .u64 (loZ x)],.agg #[.int .u64 (hiZ y),.int .u64 (loZ y)]] w fun e w'=>e=got2 (x - y) true∧Up w w':=by
  have g:=sub_up (hiZ x) (loZ x) (hiZ y) (loZ y) (hiZ_word hx) (loZ_word x) (hiZ_word hy) (loZ_word y) w
  rw [val_hilo,val_hilo,fit2_yes h,fits2_yes h] at g
  exact g
end Go.Proofs.YtafkoddgefcpnaaGreat
