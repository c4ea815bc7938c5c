/- The walks over a source of choices. -/
import Derived.Test.YtnmlajmaffiigaaGreatDoorGw
import Derived.Test.YtnmlajmaffiigaaGreatDoorGx
import Derived.Test.YtnmlajmaffiigaaGreatDoorBtO
namespace Go.VL
open Go.RowKit Go.VB
/-- The world w is w0 but for what is at or above block B; the source lies in block g and gives the numbers zl, which lie in the slice v. -/
structure Src (w0 w : World) (B g : Nat) (v : Value) (zl : List Int) : Prop where
  below : Below B w0 w
  base : B ≤ g
  lt : g < w.heap.size
  c0 : w.cell? ⟨g, 0, none⟩ = some v
  c1 : ∃ i : Nat, w.cell? ⟨g, 1, none⟩ = some (.int .i64 (i : Int)) ∧ i ≤ zl.length
  fr : w.frozen? ⟨g, 1, none⟩ = false
  rd : RdI .i64 w0 B v zl
  wf : ∀ z ∈ zl, (Lit.int .i64 z).wf = true
theorem Src.alloc {w0 w : World} {B g : Nat} {v : Value} {zl : List Int} (h : Src w0 w B g v zl) (hB : B ≤ w.heap.size) (o : Obj) : Src w0 (w.alloc o) B g v zl :=
  ⟨h.below.alloc hB o, h.base, by have := h.lt; simp; omega, (World.cell?_alloc_past o g 0 h.lt).trans h.c0,
    let ⟨i, e, hi⟩ := h.c1; ⟨i, (World.cell?_alloc_past o g 1 h.lt).trans e, hi⟩, (World.frozen?_alloc_past o g 1 h.lt).trans h.fr, h.rd, h.wf⟩
theorem Src.set {w0 w : World} {B g : Nat} {v : Value} {zl : List Int} (h : Src w0 w B g v zl) (i : Nat) (hi : i ≤ zl.length) : Src w0 (w.setCell ⟨g, 1, none⟩ (.int .i64 (i : Int))) B g v zl :=
  ⟨h.below.setCell h.base _, h.base, by rw [World.size_setCell]; exact h.lt, (World.cell?_setCell_other _ _ _ _ (by simp)).trans h.c0,
    let ⟨_, e, _⟩ := h.c1; ⟨i, World.cell?_setCell_same _ _ _ e, hi⟩, (World.frozen?_setCell _ _ _ _).trans h.fr, h.rd, h.wf⟩
theorem Src.size {w0 w : World} {B g : Nat} {v : Value} {zl : List Int} (h : Src w0 w B g v zl) : B ≤ w.heap.size := by have := h.base; have := h.lt; omega
end Go.VL
namespace Go.Proofs.YtnmlajmaffiigaaGreatDoor
open Go.RowKit Go.VB Go.VL
end Go.Proofs.YtnmlajmaffiigaaGreatDoor

namespace Go.Proofs.YtnmlajmaffiigaaGreatDoor
open Go.RowKit Go.VB Go.VL Go.VarM
set_option maxRecDepth 100000 in
set_option maxHeartbeats 4000000 in
theorem putV_any (nul : Bool) (n : Int) (s : ByteArray) (W0 : World) (hn : (Lit.int .i64 n).wf = true) (hs : s.size ≤ 140737488351232) : Calls Tryz.prog 124 #[(.agg #[.bool nul, .int .i64 n, .string s])] W0 (RetB (.string (str (putV nul n s))) W0) := by
  cases nul
  · obtain ⟨n1, n2⟩ := bounds_i64 hn
    obtain ⟨z1, z2⟩ := zig_bd n1 n2
    have HZ := fun w => Lib.hid (vzig_any n w n1 n2)
    have hp : putV false n s = [1] ++ putL (zigN n).toNat ++ putL s.size ++ s.data.toList := rfl
    rw [hp]; clear hp
    generalize zigN n = z at *
    obtain ⟨k, rfl⟩ := Int.eq_ofNat_of_zero_le z1
    rw [Int.toNat_natCast]
    have hk : k < 18446744073709551616 := by omega
    have H1 := fun w => Lib.hid (vput_any k w hk)
    have H2 := fun w => Lib.hid (vput_any s.size w (by omega))
    have l1 := putL_len10 hk
    have l2 := putL_len10 (n := s.size) (by omega)
    generalize putL k = p1 at *
    generalize putL s.size = p2 at *
    have hz : (str p1).size = p1.length := str_size p1
    have hz2 : (str p2).size = p2.length := str_size p2
    have a1 : ∀ w, (Op.stringOp .add ⟨#[1]⟩ (str p1)).run Tryz.prog w = .ok (.string (str ([1] ++ p1))) w := fun w => by
      rw [show (⟨#[1]⟩ : ByteArray) = str [1] from rfl, run_string_add_sum w _ _ (by rw [str_size, str_size]; simp; omega), str_append]
    have a2 : ∀ w, (Op.stringOp .add (str ([1] ++ p1)) (str p2)).run Tryz.prog w = .ok (.string (str ([1] ++ p1 ++ p2))) w := fun w => by
      rw [run_string_add_sum w _ _ (by rw [str_size, str_size]; simp; omega), str_append]
    have a3 : ∀ w, (Op.stringOp .add (str ([1] ++ p1 ++ p2)) s).run Tryz.prog w = .ok (.string (str ([1] ++ p1 ++ p2 ++ s.data.toList))) w := fun w => by
      rw [run_string_add_sum w _ _ (by rw [str_size]; simp; omega)]
      rw [show str ([1] ++ p1 ++ p2) ++ s = str ([1] ++ p1 ++ p2) ++ str s.data.toList from rfl, str_append]
    have hu : IntKind.u64.wrap (s.size : Int) = (s.size : Int) := IntWalk.u64_in _ ⟨by omega, by omega⟩
    have hV := Var3.new W0 (.bool false) (.int .i64 n) (.string s) 49
    clear z1 z2 hz hz2 l1 l2
    generalize str ([1] ++ p1) = q1 at *
    generalize str ([1] ++ p1 ++ p2) = q2 at *
    generalize str ([1] ++ p1 ++ p2 ++ s.data.toList) = q3 at *
    generalize str p1 = t1 at *
    generalize str p2 = t2 at *
    go_enter Tryz.func124, Tryz.ntmps124
    go_wp2_with fail
    refine Go.Confl.wp_region_confl (by simp only [List.map_cons, List.map_nil]; rfl) (by kernel_rfl) (by kernel_rfl) ?_
    iterate 15
      first
      | (refine Go.Confl.chain_skip (Go.Confl.unwanted_is rfl rfl) ?_)
      | (first | apply Go.Confl.chain_is _ (Go.Confl.wanted_none rfl) | apply Go.Confl.chain_is _ (Go.Confl.wanted_is rfl rfl)
         · intro b w hr hb K hK
           simp [Go.Confl.readFacts, Go.Confl.tmpsOf, Go.Confl.writerOf, Go.Confl.Is, Op.operands, Call.operands, List.findIdx?, List.findIdx?.go] at hr
           obtain ⟨k0, k1, k2, _, _, _⟩ := hV.step hb
           go_wp2_with (first
             | (go_at_call 159; refine (HZ _).out.mono ?_; rintro e w' ⟨rfl, rfl⟩)
             | (go_at_call 83; (with_reducible refine (H1 _).out.mono ?_); rintro e w' ⟨rfl, hb'⟩)
             | (go_at_call 83; (with_reducible refine (H2 _).out.mono ?_); rintro e w' ⟨rfl, hb'⟩))
           try (simp only [hr]; go_wp2)
           exact hK _ _ rfl (by first | exact Below.refl _ _ | assumption))
      simp only [List.nil_append, List.cons_append]
    intro us w hp hb
    simp [Go.Confl.allPosts, Go.Confl.Is] at hp
    simp only [Go.Confl.putsFrom, hp, Act.put, List.setIfInBounds_toArray, List.set_cons_zero, List.set_cons_succ]
    go_wp2
    go_ret
    exact RetB.mk rfl (bel_trans (by go_grown) hb)
  · have hp : str (putV true n s) = ⟨#[0]⟩ := rfl
    rw [hp]; clear hp
    go_enter Tryz.func124, Tryz.ntmps124
    go_wp2
    go_ret
    exact RetB.mk rfl (by go_grown)
end Go.Proofs.YtnmlajmaffiigaaGreatDoor

namespace Go.Proofs.YtnmlajmaffiigaaGreatDoor
open Go.RowKit Go.VB Go.VL Go.VarM
end Go.Proofs.YtnmlajmaffiigaaGreatDoor
