/- The walks over Join and Put, package zone's and the reference's. -/
import Derived.Test.YtnmlajmaffiigaaGreatDoorZon
import Derived.Test.YtnmlajmaffiigaaGreatDoorGy
import Derived.Test.YtnmlajmaffiigaaGreatDoorGc
import Derived.Test.YtnmlajmaffiigaaGreatDoorGx
import Derived.Deep.CutRange
namespace Go.ZN
open Go.RowKit Go.VB Go.VS Go.VL Go.CK Go.VarM
/-- The bytes of a zone. -/
def putZ (z : Zn) : List UInt8 := putL z.rows.toNat ++ putL z.nulls.toNat ++ putV z.mn.nu z.mn.n z.mn.s ++ putV z.mx.nu z.mx.n z.mx.s
theorem putV_len {b : Bool} {n : Int} {s : ByteArray} (hn : (Lit.int .i64 n).wf = true) (hs : s.size ≤ 140737488351232) : (putV b n s).length ≤ s.size + 21 := by
  unfold putV
  cases b with
  | true => simp
  | false =>
    obtain ⟨n1, n2⟩ := bounds_i64 hn
    obtain ⟨z1, z2⟩ := zig_bd n1 n2
    have l1 := putL_len10 (n := (zigN n).toNat) (by omega)
    have l2 := putL_len10 (n := s.size) (by omega)
    simp only [Bool.false_eq_true, if_false, List.length_append, List.length_cons, List.length_nil, size_list]
    omega
end Go.ZN
namespace Go.Proofs.YtnmlajmaffiigaaGreatDoor
open Go.RowKit Go.VB Go.VL Go.VS Go.ZN Go.CK Go.VarM
set_option linter.constructorNameAsVariable false
set_option maxRecDepth 100000 in
set_option maxHeartbeats 1000000 in
theorem putc_any (n : Int) (w : World) (hn : (Lit.int .i64 n).wf = true) : Calls Tryz.prog 123 #[.int .i64 n] w (RetB (.string (str (putL n.toNat))) w) := by
  obtain ⟨n1, n2⟩ := bounds_i64 hn
  by_cases h0 : 0 ≤ n
  · obtain ⟨k, rfl⟩ := Int.eq_ofNat_of_zero_le h0
    rw [Int.toNat_natCast]
    have HP := fun w => Lib.hid (vput_any k w (by omega))
    have hu : IntKind.u64.wrap (k : Int) = (k : Int) := IntWalk.u64_in _ ⟨by omega, by omega⟩
    clear hn n1 h0
    generalize str (putL k) = S at *
    go_enter Tryz.func123, Tryz.ntmps123
    go_wp2_with fail
    all_goals
      (with_reducible refine (HP _).out.mono ?_); rintro e w1 ⟨rfl, hb⟩
      go_wp2
      go_ret
      exact RetB.mk rfl hb
  · rw [show n.toNat = 0 from by omega]
    have HP : ∀ w, Hid (Calls Tryz.prog 83 #[.int .u64 0] w (RetB (.string (str (putL 0))) w)) := fun w => Lib.hid (vput_any 0 w (by omega))
    generalize str (putL 0) = S at *
    clear hn n1
    go_enter Tryz.func123, Tryz.ntmps123
    go_wp2_with fail
    all_goals
      (with_reducible refine (HP _).out.mono ?_); rintro e w1 ⟨rfl, hb⟩
      go_wp2
      go_ret
      exact RetB.mk rfl hb
set_option maxRecDepth 100000 in
set_option maxHeartbeats 4000000 in
theorem zput_any (rows nulls : Int) (mb : Bool) (mi : Int) (ms : ByteArray) (xb : Bool) (xi : Int) (xs : ByteArray) (W : World) (w0 : (Lit.int .i64 rows).wf = true) (w1 : (Lit.int .i64 nulls).wf = true) (w2 : (Lit.int .i64 mi).wf = true) (w3 : (Lit.int .i64 xi).wf = true) (z1 : ms.size ≤ 140737488351232) (z2 : xs.size ≤ 140737488351232) :
    Calls Tryz.prog 84 #[(.agg #[.int .i64 rows, .int .i64 nulls, .bool mb, .int .i64 mi, .string ms, .bool xb, .int .i64 xi, .string xs])] W (RetB (.string (str (putZ ⟨rows, nulls, ⟨mb, mi, ms⟩, ⟨xb, xi, xs⟩⟩))) W) := by
  have H1 := fun w => Lib.hid (putc_any rows w w0)
  have H2 := fun w => Lib.hid (putc_any nulls w w1)
  have H3 := fun w => Lib.hid (putV_any mb mi ms w w2 z1)
  have H4 := fun w => Lib.hid (putV_any xb xi xs w w3 z2)
  have l1 := putL_len10 (n := rows.toNat) (by have := bounds_i64 w0; omega)
  have l2 := putL_len10 (n := nulls.toNat) (by have := bounds_i64 w1; omega)
  have l3 := putV_len (b := mb) w2 z1
  have l4 := putV_len (b := xb) w3 z2
  have hp : putZ ⟨rows, nulls, ⟨mb, mi, ms⟩, ⟨xb, xi, xs⟩⟩ = putL rows.toNat ++ putL nulls.toNat ++ putV mb mi ms ++ putV xb xi xs := rfl
  rw [hp]; clear hp
  have HV := Lib.hid (show ∀ w, Below (W.alloc (.cells #[.int .i64 rows, .int .i64 nulls, .bool mb, .int .i64 mi, .string ms, .bool xb, .int .i64 xi, .string xs] 59)).heap.size (W.alloc (.cells #[.int .i64 rows, .int .i64 nulls, .bool mb, .int .i64 mi, .string ms, .bool xb, .int .i64 xi, .string xs] 59)) w → VarZ w W.heap.size ⟨rows, nulls, ⟨mb, mi, ms⟩, ⟨xb, xi, xs⟩⟩ from fun w hb =>
    (VarZ.new W ⟨rows, nulls, ⟨mb, mi, ms⟩, ⟨xb, xi, xs⟩⟩ 59).step hb)
  have HB := Lib.hid (show Below W.heap.size W (W.alloc (.cells #[.int .i64 rows, .int .i64 nulls, .bool mb, .int .i64 mi, .string ms, .bool xb, .int .i64 xi, .string xs] 59)) from by go_grown)
  generalize putL rows.toNat = p1 at *
  generalize putL nulls.toNat = p2 at *
  generalize putV mb mi ms = p3 at *
  generalize putV xb xi xs = p4 at *
  have a1 : ∀ w, (Op.stringOp .add (str p1) (str p2)).run Tryz.prog w = .ok (.string (str (p1 ++ p2))) w := fun w => by
    rw [run_string_add_sum w _ _ (by rw [str_size, str_size]; omega), str_append]
  have a2 : ∀ w, (Op.stringOp .add (str (p1 ++ p2)) (str p3)).run Tryz.prog w = .ok (.string (str (p1 ++ p2 ++ p3))) w := fun w => by
    rw [run_string_add_sum w _ _ (by rw [str_size, str_size, List.length_append]; omega), str_append]
  have a3 : ∀ w, (Op.stringOp .add (str (p1 ++ p2 ++ p3)) (str p4)).run Tryz.prog w = .ok (.string (str (p1 ++ p2 ++ p3 ++ p4))) w := fun w => by
    rw [run_string_add_sum w _ _ (by rw [str_size, str_size, List.length_append, List.length_append]; omega), str_append]
  clear l1 l2 l3 l4
  generalize str (p1 ++ p2) = q1 at *
  generalize str (p1 ++ p2 ++ p3) = q2 at *
  generalize str (p1 ++ p2 ++ p3 ++ p4) = q3 at *
  generalize str p1 = t1 at *
  generalize str p2 = t2 at *
  generalize str p3 = t3 at *
  generalize str p4 = t4 at *
  go_enter Tryz.func84, Tryz.ntmps84
  go_wp2_with fail
  refine Go.Confl.wp_region_confl (by simp only [List.map_cons, List.map_nil]; rfl) (by kernel_rfl) (by kernel_rfl) ?_
  iterate 16
    first
    | (refine Go.Confl.chain_skip (Go.Confl.unwanted_is rfl rfl) ?_)
    | (first | apply Go.Confl.chain_is _ (Go.Confl.wanted_none rfl) | apply Go.Confl.chain_is _ (Go.Confl.wanted_is rfl rfl)
       · intro b w hr hb K hK
         simp [Go.Confl.readFacts, Go.Confl.tmpsOf, Go.Confl.writerOf, Go.Confl.Is, Op.operands, Call.operands, List.findIdx?, List.findIdx?.go] at hr
         obtain ⟨c0, c1, c2, c3, c4, c5, c6, c7, _⟩ := HV.out _ hb
         simp only at c0 c1 c2 c3 c4 c5 c6 c7
         go_wp2_with (first
           | (go_at_call 123; (with_reducible refine (H1 _).out.mono ?_); rintro e w' ⟨rfl, hb'⟩)
           | (go_at_call 123; (with_reducible refine (H2 _).out.mono ?_); rintro e w' ⟨rfl, hb'⟩)
           | (go_at_call 124; (with_reducible refine (H3 _).out.mono ?_); rintro e w' ⟨rfl, hb'⟩)
           | (go_at_call 124; (with_reducible refine (H4 _).out.mono ?_); rintro e w' ⟨rfl, hb'⟩))
         try (simp only [hr]; go_wp2)
         exact hK _ _ rfl (by first | exact Below.refl _ _ | assumption))
    simp only [List.nil_append, List.cons_append]
  intro us w hp hb
  simp [Go.Confl.allPosts, Go.Confl.Is] at hp
  simp only [Go.Confl.putsFrom, hp, Act.put, List.setIfInBounds_toArray, List.set_cons_zero, List.set_cons_succ]
  go_wp2
  go_ret
  exact RetB.mk rfl (bel_trans HB.out hb)
end Go.Proofs.YtnmlajmaffiigaaGreatDoor

namespace Go.ZN
open Go.RowKit Go.VB Go.VS Go.VL Go.VarM
section
variable {s : ByteArray} {i y1 y2 j1 j2 : Int} {x1 x2 e1 e2 f1 f2 : Nat} {b1 b2 : Bool} {n1 n2 : Int} {t1 t2 : ByteArray}
end
end Go.ZN
namespace Go.Proofs.YtnmlajmaffiigaaGreatDoor
open Go.RowKit Go.VB Go.VL Go.VS Go.ZN Go.VarM
set_option linter.constructorNameAsVariable false
end Go.Proofs.YtnmlajmaffiigaaGreatDoor

namespace Go.ZN
open Go.RowKit Go.VB Go.VS Go.VL Go.VarM
section
variable {s : ByteArray} {i b : Int} {a c : Nat}
end
end Go.ZN
namespace Go.Proofs.YtnmlajmaffiigaaGreatDoor
open Go.RowKit Go.VB Go.VL Go.VS Go.ZN Go.VarM
set_option linter.constructorNameAsVariable false
end Go.Proofs.YtnmlajmaffiigaaGreatDoor
