/- A schema that comes in as an argument; the walk over the law's agrees. -/
import Derived.Test.YtfkdenlpailmeaaDoorSchJ
import Derived.Test.YtfkdenlpailmeaaDoorSchA
import Derived.Test.YtfkdenlpailmeaaDoorConfl
import Derived.Deep.Slices
namespace Go.Proofs.YtfkdenlpailmeaaDoor
open Go.RowKit Go.VB Go.VL Go.SC Go.ChangeShapes Go.WideShapes Go.ChangeAt Go.Deep
set_option linter.constructorNameAsVariable false
theorem Tryd.cells7Sch : Tryd.prog.cellsOf 24 = 2 := by kernel_rfl
theorem Tryd.cells7Col : Tryd.prog.cellsOf 32 = 4 := by kernel_rfl
theorem Tryd.cells7I : Tryd.prog.cellsOf 3 = 1 := by kernel_rfl
theorem Tryd.cells7B : Tryd.prog.cellsOf 4 = 1 := by kernel_rfl
theorem Tryd.cells7S : Tryd.prog.cellsOf 9 = 1 := by kernel_rfl
theorem Tryd.cells7L : Tryd.prog.cellsOf 22 = 1 := by kernel_rfl
section
variable {H : Type} {enc : TypeId × Value → H}
theorem open_sch {r : Reach} {b0 : Nat} {w : World} {v : Value} {d : DataW H} {ps : List MemPlace} {held : Bool} (hval : Value.okWide Tryd.prog w r b0 24 v)
    (hd : DataW.Trod enc Tryd.prog w 0 (fun _ => true) held 24 v d ps) :
    ∃ v1 cs key, v = .agg #[v1, .int .i64 key] ∧ RdC w w.heap.size v1 cs ∧ (Lit.int .i64 key).wf = true := by
  obtain ⟨cs, rfl, hsz⟩ := okWide_struct Tryd.underlying24 hval
  rw [Tryd.cells7Sch] at hsz
  obtain ⟨l⟩ := cs
  match l, hsz with
  | [c0, c1], _ =>
  obtain ⟨fuel, hf⟩ := hd
  obtain ⟨xs, n, _, _, _, hlen, hfs⟩ := DataW.trod_struct Tryd.underlying24 hf
  match xs, hlen with
  | [y0, y1], _ =>
  have h0 := hfs 0 _ rfl
  obtain ⟨key, e1, _, w1⟩ := DataW.trod_int Tryd.underlying3 (hfs 1 _ rfl)
  simp [Value.cells, Tryd.cells7L, Tryd.cells7I] at e1 h0
  subst e1
  rcases open_slice Tryd.underlying22 h0 with ⟨hcs, _⟩ | ⟨a, len, cap, m, n', D, Pl, hcs, _, hl, hm, hmm, _, hx⟩
  · simp only [List.cons.injEq, and_true] at hcs
    subst hcs
    exact ⟨_, [], key, rfl, RdC.nil _ _, w1⟩
  · simp only [List.cons.injEq, and_true] at hcs
    subst hcs
    simp only [if_true] at hmm
    subst hmm
    have hC : ∀ i, i < len → ∃ c : Col, At4 w a i c := fun i hi => by
      obtain ⟨cs', h1, h2⟩ := hx i (by omega)
      rw [Tryd.cells7Col] at h1
      obtain ⟨_, hlen4, hc⟩ := World.cells?_some h1
      match cs', hlen4 with
      | [d0, d1, d2, d3], _ =>
      obtain ⟨xs, n2, _, _, _, hlen5, hfs5⟩ := DataW.trod_struct Tryd.underlying32 h2
      match xs, hlen5 with
      | [z0, z1, z2, z3], _ =>
      obtain ⟨nm, e0, _, _⟩ := DataW.trod_string Tryd.underlying9 (hfs5 0 _ rfl)
      obtain ⟨ty, e1, _, _⟩ := DataW.trod_int Tryd.underlying3 (hfs5 1 _ rfl)
      obtain ⟨sc, e2, _, _⟩ := DataW.trod_int Tryd.underlying3 (hfs5 2 _ rfl)
      obtain ⟨nu, e3, _⟩ := DataW.trod_bool Tryd.underlying4 (hfs5 3 _ rfl)
      simp [Tryd.cells7I, Tryd.cells7B, Tryd.cells7S] at e0 e1 e2 e3
      subst e0 e1 e2 e3
      refine ⟨⟨nm, ty, sc, nu⟩, At4.mk' ?_ ?_ ?_ ?_⟩
      · have := hc 0 (by omega); rw [Go.Deep.add_add] at this; exact this
      · have := hc 1 (by omega); rw [Go.Deep.add_add] at this; exact this
      · have := hc 2 (by omega); rw [Go.Deep.add_add] at this; exact this
      · have := hc 3 (by omega); rw [Go.Deep.add_add] at this; exact this
    haveI : Inhabited Col := ⟨col0⟩
    obtain ⟨V, hV⟩ := choose_lt (α := Col) (p := fun i c => At4 w a i c) hC
    refine ⟨_, (List.range len).map V, key, rfl, ⟨some a, _, by simp, by simpa using hl, hm, fun i hi => ?_⟩, w1⟩
    simp at hi
    have h4 := hV i hi
    refine ⟨a, rfl, ?_, ?_⟩
    · have := World.block_lt_of_cell? w _ h4.c0
      rw [Go.VB.block_add] at this; exact this
    · rw [List.getD_eq_getElem?_getD, List.getElem?_map, List.getElem?_range hi]; exact h4
end
set_option maxRecDepth 100000 in
set_option maxHeartbeats 16000000 in
theorem agrees_any (cs : List Col) (v : Value) (key : Int) (nm : ByteArray) (W : World) (hr : RdC W W.heap.size v cs) :
    Calls Tryd.prog 14 #[.agg #[v, .int .i64 key], .string nm] W (RetB (.bool true) W) := by
  have hV0 := Var2.new W v (.int .i64 key) 24
  have hB0 : Below W.heap.size W (W.alloc (.cells #[v, .int .i64 key] 24)) := (Below.refl _ _).alloc (Nat.le_refl _) _
  have hR0 : RdC (W.alloc (.cells #[v, .int .i64 key] 24)) W.heap.size v cs := hr.below hB0
  have hF := fun w h => Lib.hid (format_any cs v key w h)
  have hG := fun w h => Lib.hid (rformat_any cs v key w h)
  have hI := fun w h => Lib.hid (id_any cs v key w h)
  have hJ := fun w h => Lib.hid (rid_any cs v key w h)
  have hC := fun w h => Lib.hid (check_any cs v key w h)
  have hD := fun w h => Lib.hid (rcheck_any cs v key w h)
  have hK := fun w h => Lib.hid (find_any cs v key nm w h)
  have hL := fun w h => Lib.hid (rfind_any cs v key nm w h)
  have HR := fun (w : World) (hb : Below (W.alloc (.cells #[v, .int .i64 key] 24)).heap.size (W.alloc (.cells #[v, .int .i64 key] 24)) w) => Lib.hid ((hR0.more hB0.size).step hb)
  have HVV := fun (w : World) (hb : Below (W.alloc (.cells #[v, .int .i64 key] 24)).heap.size (W.alloc (.cells #[v, .int .i64 key] 24)) w) => Lib.hid (hV0.step hb)
  have HBB := fun (w : World) (hb : Below (W.alloc (.cells #[v, .int .i64 key] 24)).heap.size (W.alloc (.cells #[v, .int .i64 key] 24)) w) => Lib.hid (bel_trans hB0 hb)
  have h1 := hR0.more hB0.size
  obtain ⟨A, c, rfl, _⟩ := hr
  obtain ⟨l0, l1, _, _⟩ := hV0
  clear hR0 hB0
  have e1 : ((FT cs key).toList == (FT cs key).toList) = true := beq_self_eq_true _
  have e2 : ((chkS cs key : Int) == (chkS cs key : Int)) = true := beq_self_eq_true _
  have e3 : ((IDN cs key : Int) == (IDN cs key : Int)) = true := beq_self_eq_true _
  have e4 : (fnd cs nm == fnd cs nm) = true := beq_self_eq_true _
  go_enter Tryd.func14, Tryd.ntmps14
  go_wp2_with fail
  generalize FT cs key = F at *
  generalize (chkS cs key : Int) = E at *
  generalize (IDN cs key : Int) = I at *
  generalize fnd cs nm = N at *
  generalize hg : W.heap.size = g at *
  generalize W.alloc (.cells #[.slice A cs.length c, .int .i64 key] 24) = w0 at *
  refine (hF _ h1).out.mono ?_
  rintro e w1 ⟨rfl, hb1⟩
  have h2 := (HR _ hb1).out
  obtain ⟨k0, k1, _, _⟩ := (HVV _ hb1).out
  clear l0 l1
  go_wp2_with fail
  refine (hG _ h2).out.mono ?_
  rintro e w2 ⟨rfl, hb2⟩
  replace hb2 := bel_trans hb1 hb2
  have h3 := (HR _ hb2).out
  clear k0 k1 hb1 h2
  obtain ⟨k0, k1, _, _⟩ := (HVV _ hb2).out
  go_wp2_with fail
  refine (hI _ h3).out.mono ?_
  rintro e w3 ⟨rfl, hb3⟩
  replace hb3 := bel_trans hb2 hb3
  have h4 := (HR _ hb3).out
  clear k0 k1 hb2 h3
  obtain ⟨k0, k1, _, _⟩ := (HVV _ hb3).out
  go_wp2_with fail
  refine (hJ _ h4).out.mono ?_
  rintro e w4 ⟨rfl, hb4⟩
  replace hb4 := bel_trans hb3 hb4
  clear k0 k1 hb3 h4 hF hG hI hJ
  have HV := fun (w : World) (hb : Below w4.heap.size w4 w) => HVV w (bel_trans hb4 hb)
  have HRR := fun (w : World) (hb : Below w4.heap.size w4 w) => HR w (bel_trans hb4 hb)
  have HBF := (HBB _ hb4)
  have hC4 := fun w hb => Lib.hid (hC w (HRR w hb).out).out
  have hD4 := fun w hb => Lib.hid (hD w (HRR w hb).out).out
  have hK4 := fun w hb => Lib.hid (hK w (HRR w hb).out).out
  have hL4 := fun w hb => Lib.hid (hL w (HRR w hb).out).out
  clear hC hD hK hL HR HVV HBB hb4 h1 HRR
  go_wp2_with fail
  refine Go.Confl.wp_region_confl (by simp only [List.map_cons, List.map_nil]; rfl) (by kernel_rfl) (by kernel_rfl) ?_
  iterate 35
    first
    | (refine Go.Confl.chain_skip (Go.Confl.unwanted_is rfl rfl) ?_)
    | (first | apply Go.Confl.chain_is _ (Go.Confl.wanted_none rfl) | apply Go.Confl.chain_is _ (Go.Confl.wanted_is rfl rfl)
       · intro b w hr hb K hK
         simp [Go.Confl.readFacts, Go.Confl.tmpsOf, Go.Confl.writerOf, Go.Confl.Is, Op.operands, Call.operands, List.findIdx?, List.findIdx?.go] at hr
         obtain ⟨k0, k1, _, _⟩ := (HV _ hb).out
         go_wp2_with (first
           | (go_at_call 12; (with_reducible refine (hC4 _ hb).out.mono ?_); rintro e w' ⟨rfl, hb'⟩)
           | (go_at_call 27; (with_reducible refine (hD4 _ hb).out.mono ?_); rintro e w' ⟨rfl, hb'⟩)
           | (go_at_call 11; (with_reducible refine (hK4 _ hb).out.mono ?_); rintro e w' ⟨rfl, hb'⟩)
           | (go_at_call 28; (with_reducible refine (hL4 _ hb).out.mono ?_); rintro e w' ⟨rfl, hb'⟩))
         try (simp only [hr]; go_wp2)
         exact hK _ _ rfl (by first | exact Below.refl _ _ | assumption))
    simp only [List.nil_append, List.cons_append]
  intro us w hp hb
  simp [Go.Confl.allPosts, Go.Confl.Is] at hp
  simp only [Go.Confl.putsFrom, hp, Act.put, List.setIfInBounds_toArray, List.set_cons_zero, List.set_cons_succ]
  go_wp2_with fail
  go_ret
  have hX := HBF.out
  rw [← hg] at hX
  exact RetB.mk rfl (bel_trans hX hb)
end Go.Proofs.YtfkdenlpailmeaaDoor
