/- Decimal digits. No program is named here. -/
namespace Go.Proofs.Ytnhekeohbnmodaa

/-- The decimal digits of v, at most f of them. -/
def dec : Nat → Nat → List UInt8
  | 0, _ => []
  | f + 1, v => (if v / 10 = 0 then [] else dec f (v / 10)) ++ [UInt8.ofNat (48 + v % 10)]
def decs (v : Int) : List UInt8 := dec 39 v.toNat

theorem dec_last {f v : Nat} (h : v / 10 = 0) : dec (f + 1) v = [UInt8.ofNat (48 + v % 10)] := by
  rw [dec, if_pos h]; rfl
theorem dec_more {f v : Nat} (h : v / 10 ≠ 0) : dec (f + 1) v = dec f (v / 10) ++ [UInt8.ofNat (48 + v % 10)] := by
  rw [dec, if_neg h]

end Go.Proofs.Ytnhekeohbnmodaa
