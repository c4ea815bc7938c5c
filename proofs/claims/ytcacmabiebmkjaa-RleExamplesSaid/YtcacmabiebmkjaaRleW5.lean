/- The walks over package rle: one run read, Decode. -/
import Derived.Test.YtcacmabiebmkjaaRleW2
namespace Go.RL
open Go.RowKit Go.VB Go.VarM
/-- The length of a slice. -/
def lenV : Value → Nat
  | .slice _ n _ => n
  | _ => 0
theorem last_at {l : List Int} {n : Nat} (h : l.length = n + 1) : l.getLast? = l[n]? := by
  rw [List.getLast?_eq_getElem?, h]; rfl
theorem rep_snoc (l : List Int) (t : Nat) (v : Int) : l ++ List.replicate t v ++ [v] = l ++ List.replicate (t + 1) v := by
  rw [List.append_assoc, ← List.replicate_succ']
end Go.RL
namespace Go.Proofs.Ytcacmabiebmkjaa
open Go.RowKit Go.VB Go.VarM Go.RL
theorem Try.infI64 : (Try.prog.info? 2).map (fun i => (i.zero, i.size, i.bytes)) = some (some (.int .i64 0), 1, 8) := by kernel_rfl
theorem results_tmp4r {fn : Func} {t u v x : Tmp} {P : Program} (h : fn.results = #[.tmp t, .tmp u, .tmp v, .tmp x]) (tmps : Array Value) (w : World) :
    (results fn tmps).run P w = .ok (.tuple #[tmps.getD t undef, tmps.getD u undef, tmps.getD v undef, tmps.getD x undef]) w := by
  simp [results, h]
theorem run_make0 {P : Program} {t e : TypeId} {bytes : Nat} {z : Value} (hz1 : z.cells = #[z]) (ht : P.underlying t = some (.slice e)) (hinfo : (P.info? e).map (fun i => (i.zero, i.size, i.bytes)) = some (some z, 1, bytes))
    (n : Nat) (hb : bytes * n ≤ 281474976710656) (hm : n ≤ maxLen) (w : World) :
    (Instr.makeSlice t (.int .i64 0) (.int .i64 (n : Int))).run P w = .ok (.slice (some ⟨w.heap.size, 0, none⟩) 0 n) (w.alloc (.cells (madeCells #[z] n) e)) := by
  obtain ⟨i, hi, hz, hsz, hby⟩ := info_parts hinfo
  unfold maxLen at hm
  have h := run_make (P := P) w t e i z ht hi hz .i64 .i64 0 n (by omega) (by omega) (by rw [hby, ← Int.natCast_mul]; omega) (by omega)
  rw [Int.toNat_natCast, hsz, Nat.mul_one, hz1] at h
  exact h
theorem vget_is (s : ByteArray) (i : Int) (w : World) (hs : s.size ≤ maxLen) {a : Nat} {b : Int} {c : Nat} (h : getR s i = (a, b, c)) :
    Calls Try.prog 34 #[.string s, .int .i64 i] w (Ret (.tuple #[.int .u64 (a : Int), .int .i64 b, .int .i64 (c : Int)]) w) := by
  have := vget_any s i w hs
  rw [h] at this
  exact this
theorem vget_ok (s : ByteArray) (i : Int) (w : World) (hs : s.size ≤ maxLen) {a : Nat} {b : Int} (h : getR s i = (a, b, 0)) :
    Calls Try.prog 34 #[.string s, .int .i64 i] w (Ret (.tuple #[.int .u64 (a : Int), .int .i64 b, .int .i64 0]) w) := vget_is s i w hs h
section
variable (s : ByteArray) (p : Int) (m : Nat) (w : World) (hs : s.size ≤ maxLen)
include hs
set_option maxHeartbeats 400000 in
theorem getrun_e1 {a : Nat} {b : Int} {c : Nat} (hg : getR s p = (a, b, c)) (hc : c ≠ 0) :
    Calls Try.prog 30 #[.string s, .int .i64 p, .int .i64 (m : Int)] w (Ret (.tuple #[.int .i64 0, .int .i64 0, .int .i64 0, .int .i64 (c : Int)]) w) := by
  have HG := Lib.hid (vget_is s p w hs hg)
  have hd : ((c : Int) != 0) = true := by simp; omega
  clear hg hc
  go_enter Try.func30, Try.ntmps30
  go_wp2_with (go_at_call 34; (with_reducible refine HG.out.mono ?_); rintro e w' ⟨rfl, rfl⟩)
  (try simp only [Exit.inBlock, Exit.then]); refine bodyPost_ret (results_tmp4r rfl _ _) rfl ?_
  exact Ret.mk rfl
set_option maxHeartbeats 400000 in
theorem getrun_k (hm : m ≤ 1000000) {a : Nat} {b : Int} (hg : getR s p = (a, b, 0)) (hk : a = 0 ∨ m < a) :
    Calls Try.prog 30 #[.string s, .int .i64 p, .int .i64 (m : Int)] w (Ret (.tuple #[.int .i64 0, .int .i64 0, .int .i64 0, .int .i64 2]) w) := by
  have HG := Lib.hid (vget_ok s p w hs hg)
  clear hg
  by_cases h0 : a = 0
  · subst h0
    go_enter Try.func30, Try.ntmps30
    go_wp2_with (go_at_call 34; (with_reducible refine HG.out.mono ?_); rintro e w' ⟨rfl, rfl⟩)
    (try simp only [Exit.inBlock, Exit.then]); refine bodyPost_ret (results_tmp4r rfl _ _) rfl ?_
    exact Ret.mk rfl
  · have hd : ((a : Int) == 0) = false := by simp; omega
    have hk' : m < a := by omega
    clear hk h0
    go_enter Try.func30, Try.ntmps30
    go_wp2_with (go_at_call 34; (with_reducible refine HG.out.mono ?_); rintro e w' ⟨rfl, rfl⟩)
    (try simp only [Exit.inBlock, Exit.then]); refine bodyPost_ret (results_tmp4r rfl _ _) rfl ?_
    exact Ret.mk rfl
set_option maxHeartbeats 400000 in
theorem getrun_e2 (hm : m ≤ 1000000) {a : Nat} {b : Int} {z : Nat} {b' : Int} {c : Nat} (hg : getR s p = (a, b, 0)) (hk : 1 ≤ a ∧ a ≤ m) (hg2 : getR s b = (z, b', c)) (hc : c ≠ 0) :
    Calls Try.prog 30 #[.string s, .int .i64 p, .int .i64 (m : Int)] w (Ret (.tuple #[.int .i64 0, .int .i64 0, .int .i64 0, .int .i64 (c : Int)]) w) := by
  have HG := Lib.hid (vget_ok s p w hs hg); have HG2 := Lib.hid (vget_is s b w hs hg2)
  obtain ⟨hk1, hk2⟩ := hk
  have hd : ((a : Int) == 0) = false := by simp; omega
  have hd2 : ((c : Int) != 0) = true := by simp; omega
  clear hg hg2 hc
  go_enter Try.func30, Try.ntmps30
  go_wp2_with (first
    | (go_at_call 34; (with_reducible refine HG.out.mono ?_); rintro e w' ⟨rfl, rfl⟩)
    | (go_at_call 34; (with_reducible refine HG2.out.mono ?_); rintro e w' ⟨rfl, rfl⟩))
  (try simp only [Exit.inBlock, Exit.then]); refine bodyPost_ret (results_tmp4r rfl _ _) rfl ?_
  exact Ret.mk rfl
set_option maxHeartbeats 400000 in
theorem getrun_ok (hm : m ≤ 1000000) {a : Nat} {b : Int} {z : Nat} {b' : Int} (hg : getR s p = (a, b, 0)) (hk : 1 ≤ a ∧ a ≤ m) (hg2 : getR s b = (z, b', 0)) :
    Calls Try.prog 30 #[.string s, .int .i64 p, .int .i64 (m : Int)] w (Ret (.tuple #[.int .i64 (a : Int), .int .i64 (zagN z), .int .i64 b', .int .i64 0]) w) := by
  have HG := Lib.hid (vget_ok s p w hs hg); have HG2 := Lib.hid (vget_ok s b w hs hg2)
  have hz : z < 18446744073709551616 := by
    obtain ⟨_, _, _, _, _, _, _, h⟩ := getR_zero hg2; exact h
  have HZ := Lib.hid (vzag_any z w (by omega) (by omega))
  obtain ⟨hk1, hk2⟩ := hk
  have hd : ((a : Int) == 0) = false := by simp; omega
  clear hg hg2
  go_enter Try.func30, Try.ntmps30
  go_wp2_with (first
    | (go_at_call 34; (with_reducible refine HG.out.mono ?_); rintro e w' ⟨rfl, rfl⟩)
    | (go_at_call 34; (with_reducible refine HG2.out.mono ?_); rintro e w' ⟨rfl, rfl⟩)
    | (go_at_call 35; (with_reducible refine HZ.out.mono ?_); rintro e w' ⟨rfl, rfl⟩))
  (try simp only [Exit.inBlock, Exit.then]); refine bodyPost_ret (results_tmp4r rfl _ _) rfl ?_
  exact Ret.mk rfl
end
end Go.Proofs.Ytcacmabiebmkjaa
