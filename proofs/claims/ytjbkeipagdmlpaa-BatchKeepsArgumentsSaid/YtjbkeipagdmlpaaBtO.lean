/- A schema that comes in as an argument (parted from SchO). -/
import Derived.Test.YtjbkeipagdmlpaaSchW3
import Derived.Deep.Slices
import Derived.Test.YtjbkeipagdmlpaaOpenK
import Derived.Test.YtjbkeipagdmlpaaValA
namespace Go.Proofs.Ytjbkeipagdmlpaa
open Go.RowKit Go.VB Go.VL Go.SC Go.ChangeShapes Go.WideShapes Go.ChangeAt Go.Deep
set_option linter.constructorNameAsVariable false
theorem Try.cells7Sch : Try.prog.cellsOf 28 = 2 := by kernel_rfl
theorem Try.cells7Col : Try.prog.cellsOf 66 = 4 := by kernel_rfl
theorem Try.cells7I : Try.prog.cellsOf 3 = 1 := by kernel_rfl
theorem Try.cells7B : Try.prog.cellsOf 4 = 1 := by kernel_rfl
theorem Try.cells7S : Try.prog.cellsOf 9 = 1 := by kernel_rfl
theorem Try.cells7L : Try.prog.cellsOf 26 = 1 := by kernel_rfl
section
variable {H : Type} {enc : TypeId × Value → H}
theorem open_sch {r : Reach} {b0 : Nat} {w : World} {v : Value} {d : DataW H} {ps : List MemPlace} {held : Bool} (hval : Value.okWide Try.prog w r b0 28 v)
    (hd : DataW.Trod enc Try.prog w 0 (fun _ => true) held 28 v d ps) :
    ∃ v1 cs key, v = .agg #[v1, .int .i64 key] ∧ RdC w w.heap.size v1 cs ∧ (Lit.int .i64 key).wf = true := by
  obtain ⟨cs, rfl, hsz⟩ := okWide_struct Try.underlying28 hval
  rw [Try.cells7Sch] at hsz
  obtain ⟨l⟩ := cs
  match l, hsz with
  | [c0, c1], _ =>
  obtain ⟨fuel, hf⟩ := hd
  obtain ⟨xs, n, _, _, _, hlen, hfs⟩ := DataW.trod_struct Try.underlying28 hf
  match xs, hlen with
  | [y0, y1], _ =>
  have h0 := hfs 0 _ rfl
  obtain ⟨key, e1, _, w1⟩ := DataW.trod_int Try.underlying3 (hfs 1 _ rfl)
  simp [Value.cells, Try.cells7L, Try.cells7I] at e1 h0
  subst e1
  rcases open_slice Try.underlying26 h0 with ⟨hcs, _⟩ | ⟨a, len, cap, m, n', D, Pl, hcs, _, hl, hm, hmm, _, hx⟩
  · simp only [List.cons.injEq, and_true] at hcs
    subst hcs
    exact ⟨_, [], key, rfl, RdC.nil _ _, w1⟩
  · simp only [List.cons.injEq, and_true] at hcs
    subst hcs
    simp only [if_true] at hmm
    subst hmm
    have hC : ∀ i, i < len → ∃ c : Col, At4 w a i c := fun i hi => by
      obtain ⟨cs', h1, h2⟩ := hx i (by omega)
      rw [Try.cells7Col] at h1
      obtain ⟨_, hlen4, hc⟩ := World.cells?_some h1
      match cs', hlen4 with
      | [d0, d1, d2, d3], _ =>
      obtain ⟨xs, n2, _, _, _, hlen5, hfs5⟩ := DataW.trod_struct Try.underlying66 h2
      match xs, hlen5 with
      | [z0, z1, z2, z3], _ =>
      obtain ⟨nm, e0, _, _⟩ := DataW.trod_string Try.underlying9 (hfs5 0 _ rfl)
      obtain ⟨ty, e1, _, _⟩ := DataW.trod_int Try.underlying3 (hfs5 1 _ rfl)
      obtain ⟨sc, e2, _, _⟩ := DataW.trod_int Try.underlying3 (hfs5 2 _ rfl)
      obtain ⟨nu, e3, _⟩ := DataW.trod_bool Try.underlying4 (hfs5 3 _ rfl)
      simp [Try.cells7I, Try.cells7B, Try.cells7S] at e0 e1 e2 e3
      subst e0 e1 e2 e3
      refine ⟨⟨nm, ty, sc, nu⟩, At4.mk' ?_ ?_ ?_ ?_⟩
      · have := hc 0 (by omega); rw [Go.Deep.add_add] at this; exact this
      · have := hc 1 (by omega); rw [Go.Deep.add_add] at this; exact this
      · have := hc 2 (by omega); rw [Go.Deep.add_add] at this; exact this
      · have := hc 3 (by omega); rw [Go.Deep.add_add] at this; exact this
    haveI : Inhabited Col := ⟨col0⟩
    obtain ⟨V, hV⟩ := choose_lt (α := Col) (p := fun i c => At4 w a i c) hC
    refine ⟨_, (List.range len).map V, key, rfl, ⟨some a, _, by simp, by simpa using hl, hm, fun i hi => ?_⟩, w1⟩
    simp at hi
    have h4 := hV i hi
    refine ⟨a, rfl, ?_, ?_⟩
    · have := World.block_lt_of_cell? w _ h4.c0
      rw [Go.VB.block_add] at this; exact this
    · rw [List.getD_eq_getElem?_getD, List.getElem?_map, List.getElem?_range hi]; exact h4
end
end Go.Proofs.Ytjbkeipagdmlpaa

namespace Go.RS
open Go.RowKit Go.VB Go.VS Go.MK
theorem weights_mem_all {H : Type} {P : Program} {e : TypeId} : ∀ {ds : List (DataW H)} {d : DataW H} {n : Nat}, d ∈ ds → n ∈ d.weights P e → n ∈ DataW.weightsAll P e ds
  | [], _, _, h, _ => by simp at h
  | x :: r, d, n, h, hn => by
    rw [DataW.weightsAll]
    rcases List.mem_cons.1 h with rfl | h
    · exact List.mem_append.2 (.inl hn)
    · exact List.mem_append.2 (.inr (weights_mem_all h hn))
end Go.RS
namespace Go.Proofs.Ytjbkeipagdmlpaa
open Go.RowKit Go.VB Go.VS Go.MK Go.RS Go.ChangeShapes Go.WideShapes Go.ChangeAt Go.Deep
set_option linter.constructorNameAsVariable false
section
variable {H : Type} {enc : TypeId × Value → H}
theorem open_lls {r : Reach} {b0 : Nat} {w : World} {v : Value} {d : DataW H} {ps : List MemPlace} {held : Bool} (hval : Value.okWide Try.prog w r b0 29 v)
    (hd : DataW.Trod enc Try.prog w 0 (fun _ => true) held 29 v d ps) : ∃ ls : List (List Vl), RdLL w w.heap.size v ls := by
  obtain ⟨A, n, c, rfl⟩ := okWide_slice Try.underlying29 hval
  obtain ⟨fuel, hf⟩ := hd
  obtain ⟨ls, v', h1, h2, _⟩ := lls_cells hf
  simp [Value.cells] at h1
  subst h1
  exact ⟨ls, h2⟩
theorem Try.cells15R : Try.prog.cellsOf 41 = 2 := by kernel_rfl
theorem Try.cells15L : Try.prog.cellsOf 36 = 1 := by kernel_rfl
theorem Try.cells15I : Try.prog.cellsOf 2 = 1 := by kernel_rfl
theorem vls_cellsD {w : World} {held : Bool} {n : Nat} {cs : List Value} {y : DataW H × List MemPlace} (h : DataW.trod enc Try.prog w 0 (fun _ => true) held n 36 cs = some y) :
    ∃ (l : List Vl) (v : Value), cs = [v] ∧ RdL w w.heap.size v l ∧ ((∀ n ∈ y.1.weights Try.prog 36, n ≤ reachBytes) → l.length * 32 ≤ 140737488351232) := by
  obtain ⟨l, v, h1, h2, h3⟩ := open_rowK valL Try.underlying36 Try.cellsV3 VlQ (fun n cs' y h => val_cells h) h
  refine ⟨l, v, h1, rdL_of h2, fun hw => ?_⟩
  rcases h3 with ⟨_, rfl⟩ | ⟨ds, sp, hd, hl, _⟩
  · simp
  · have := hw ((ds.length + sp.length) * Try.prog.bytesOf 32) (by rw [hd]; simp [DataW.weights, Try.underlying36])
    rw [show Try.prog.bytesOf 32 = 32 from by kernel_rfl, hl] at this
    have hrb : reachBytes ≤ 140737488351232 := by decide
    omega
theorem open_recs {r : Reach} {b0 : Nat} {w : World} {v : Value} {d : DataW H} {ps : List MemPlace} {held : Bool} (hval : Value.okWide Try.prog w r b0 24 v)
    (hd : DataW.Trod enc Try.prog w 0 (fun _ => true) held 24 v d ps) {ts : List TypeId} {ds : List (DataW H)} (hsz : (DataW.weightsEach Try.prog ts ds).all (· ≤ reachBytes) = true) {j : Nat} (hj : ts[j]? = some 24) (hdj : ds[j]? = some d) :
    ∃ l : List Rc, RdR w w.heap.size v l ∧ l.length * 32 ≤ 140737488351232 ∧ ∀ r ∈ l, r.row.length * 32 ≤ 140737488351232 := by
  obtain ⟨A, n, c, rfl⟩ := okWide_slice Try.underlying24 hval
  obtain ⟨fuel, hf⟩ := hd
  have hw : ∀ n ∈ d.weights Try.prog 24, n ≤ reachBytes := fun n hn => by
    have := List.all_eq_true.1 hsz _ (DataW.weights_mem_each hj hdj n hn)
    simpa using this
  have hrb : reachBytes ≤ 140737488351232 := by decide
  obtain ⟨qs, v', h1, h2, h3⟩ := open_rowK recL Try.underlying24 Try.cells15R (fun p x => ∃ l : List Vl, RdL w w.heap.size p.row.val l ∧ ((∀ n ∈ x.weights Try.prog 41, n ≤ reachBytes) → l.length * 32 ≤ 140737488351232))
    (fun n cs' y h => by
      obtain ⟨xs, n2, _, hdp, hcl, hlen, hfs⟩ := DataW.trod_struct Try.underlying41 h
      rw [Try.cells15R] at hcl
      match cs', hcl, hfs with
      | [d0, d1], _, hfs =>
      match xs, hlen, hfs with
      | [z0, z1], _, hfs =>
      obtain ⟨nn, e0, _, w1⟩ := DataW.trod_int Try.underlying2 (hfs 0 _ rfl)
      obtain ⟨l, v, e1, e2, e3⟩ := vls_cellsD (hfs 1 _ rfl)
      obtain ⟨A, c, k, rfl, _, _, _⟩ := e2.bds
      simp [Try.cells15I, Try.cells15L] at e0 e1
      subst e0 e1
      refine ⟨⟨nn, ⟨A, k, c⟩⟩, rfl, l, e2, fun hw => e3 fun n hn => hw n ?_⟩
      have hde : y.1 = .agg [z0.1, z1.1] := by
        first
          | (have := congrArg Prod.fst hdp; simpa using this)
          | (rw [hdp])
          | simpa using hdp
      rw [hde]
      simp [DataW.weights, DataW.weightsEach, Try.underlying41]
      exact .inr hn) hf
  simp [Value.cells] at h1
  subst h1
  rcases h3 with ⟨_, rfl⟩ | ⟨es, sp, hde, hl, hq⟩
  · exact ⟨[], ⟨[], h2, DeepR.nil _ _⟩, by simp, fun r h => by simp at h⟩
  · replace hde : d = .slice es sp := hde
    have hlen : qs.length * 32 ≤ 140737488351232 := by
      have := hw ((es.length + sp.length) * Try.prog.bytesOf 41) (by rw [hde]; simp [DataW.weights, Try.underlying24])
      rw [show Try.prog.bytesOf 41 = 32 from by kernel_rfl, hl] at this
      omega
    have hall : ∀ p ∈ qs, ∃ row : List Vl, RdL w w.heap.size p.row.val row ∧ (⟨p.seq, row⟩ : Rc).row.length * 32 ≤ 140737488351232 := fun p hp => by
      obtain ⟨i, hi, rfl⟩ := List.getElem_of_mem hp
      obtain ⟨row, h5, h6⟩ := hq i _ es[i] (List.getElem?_eq_getElem hi) (List.getElem?_eq_getElem (by rw [hl]; exact hi))
      refine ⟨row, h5, h6 fun n hn => hw n ?_⟩
      rw [hde]
      simp only [DataW.weights, Try.underlying24]
      exact List.mem_cons_of_mem _ (List.mem_append.2 (.inl (weights_mem_all (List.getElem_mem _) hn)))
    obtain ⟨l, h4, h5⟩ := deepR_of (Pr := fun r => r.row.length * 32 ≤ 140737488351232) qs hall
    exact ⟨l, ⟨qs, h2, h4⟩, by rw [← h4.1]; exact hlen, h5⟩
theorem open_rec {r : Reach} {b0 : Nat} {w : World} {v : Value} {d : DataW H} {ps : List MemPlace} {held : Bool} (hval : Value.okWide Try.prog w r b0 41 v)
    (hd : DataW.Trod enc Try.prog w 0 (fun _ => true) held 41 v d ps) : ∃ (q : Int) (u : Value) (l : List Vl), v = .agg #[.int .i64 q, u] ∧ RdL w w.heap.size u l := by
  obtain ⟨cs, rfl, hcz⟩ := okWide_struct Try.underlying41 hval
  rw [Try.cells15R] at hcz
  obtain ⟨l⟩ := cs
  match l, hcz with
  | [c0, c1], _ =>
  obtain ⟨fuel, hf⟩ := hd
  obtain ⟨xs, n, _, _, _, hlen, hfs⟩ := DataW.trod_struct Try.underlying41 hf
  match xs, hlen with
  | [y0, y1], _ =>
  obtain ⟨q, e0, _, _⟩ := DataW.trod_int Try.underlying2 (hfs 0 _ rfl)
  obtain ⟨l, u, e1, e2, _⟩ := vls_cellsD (hfs 1 _ rfl)
  simp [Value.cells, Try.cells15I, Try.cells15L] at e0 e1
  subst e0 e1
  exact ⟨q, _, l, rfl, e2⟩
theorem Try.cells15K : Try.prog.cellsOf 43 = 4 := by kernel_rfl
theorem open_rank {r : Reach} {b0 : Nat} {w : World} {v : Value} {d : DataW H} {ps : List MemPlace} {held : Bool} (hval : Value.okWide Try.prog w r b0 43 v)
    (hd : DataW.Trod enc Try.prog w 0 (fun _ => true) held 43 v d ps) : ∃ (b : Bool) (n : Int) (s : ByteArray) (q : Int), v = .agg #[.bool b, .int .i64 n, .string s, .int .i64 q] := by
  obtain ⟨cs, rfl, hcz⟩ := okWide_struct Try.underlying43 hval
  rw [Try.cells15K] at hcz
  obtain ⟨l⟩ := cs
  match l, hcz with
  | [c0, c1, c2, c3], _ =>
  obtain ⟨fuel, hf⟩ := hd
  obtain ⟨xs, n, _, _, _, hlen, hfs⟩ := DataW.trod_struct Try.underlying43 hf
  match xs, hlen with
  | [y0, y1], _ =>
  obtain ⟨us, n2, _, _, _, hlen2, hf2⟩ := DataW.trod_struct Try.underlying32 (hfs 0 _ rfl)
  match us, hlen2 with
  | [a0, a1, a2], _ =>
  obtain ⟨q, e3, _, _⟩ := DataW.trod_int Try.underlying2 (hfs 1 _ rfl)
  obtain ⟨b, e0, _⟩ := DataW.trod_bool Try.underlying4 (hf2 0 _ rfl)
  obtain ⟨m, e1, _, _⟩ := DataW.trod_int Try.underlying2 (hf2 1 _ rfl)
  obtain ⟨s, e2, _, _⟩ := DataW.trod_string Try.underlying9 (hf2 2 _ rfl)
  simp [Value.cells, Try.cells15I, Try.cellsV3, Try.cellsVB, Try.cellsVS] at e0 e1 e2 e3
  subst e0 e1 e2 e3
  exact ⟨b, m, s, q, rfl⟩
end
end Go.Proofs.Ytjbkeipagdmlpaa
