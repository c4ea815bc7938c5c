/- The walk over the reference's reading of runs. -/
import Derived.Test.YtjoohmifbkbpbaaRleW5
namespace Go.Proofs.Ytjoohmifbkbpbaa
open Go.RowKit Go.VB Go.VarM Go.RL
set_option maxHeartbeats 400000 in
theorem rsz_any (n : Int) (w : World) : Calls Try.prog 38 #[.int .i64 n] w (Ret (.bool (decide (0 ≤ n ∧ n ≤ 4096))) w) := by
  by_cases h0 : n < 0
  · rw [decide_eq_false (by omega)]
    go_enter Try.func38, Try.ntmps38
    go_wp2
    go_ret
    exact Ret.mk rfl
  have hd0 : decide (0 ≤ n) = true := decide_eq_true (by omega)
  by_cases h1 : 4096 < n
  · rw [decide_eq_false (by omega)]
    have hd1 : decide (n ≤ 4096) = false := decide_eq_false (by omega)
    go_enter Try.func38, Try.ntmps38
    go_wp2
    go_ret
    exact Ret.mk (by rw [← hd1]; rfl)
  have hd1 : decide (n ≤ 4096) = true := decide_eq_true (by omega)
  rw [decide_eq_true (by omega)]
  go_enter Try.func38, Try.ntmps38
  go_wp2
  go_ret
  exact Ret.mk (by rw [← hd1]; rfl)
theorem rget_is (s : ByteArray) (i : Int) (w : World) (hs : s.size ≤ maxLen) {a : Nat} {b : Int} {c : Nat} (h : getR s i = (a, b, c)) :
    Calls Try.prog 39 #[.string s, .int .i64 i] w (Ret (.tuple #[.int .u64 (a : Int), .int .i64 b, .int .i64 (c : Int)]) w) := by
  have := rget_any s i w hs
  rw [h] at this
  exact this
theorem rget_ok (s : ByteArray) (i : Int) (w : World) (hs : s.size ≤ maxLen) {a : Nat} {b : Int} (h : getR s i = (a, b, 0)) :
    Calls Try.prog 39 #[.string s, .int .i64 i] w (Ret (.tuple #[.int .u64 (a : Int), .int .i64 b, .int .i64 0]) w) := rget_is s i w hs h
end Go.Proofs.Ytjoohmifbkbpbaa
