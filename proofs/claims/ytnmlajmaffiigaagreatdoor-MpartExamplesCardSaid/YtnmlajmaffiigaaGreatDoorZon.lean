/- Zones: what Of, Join, Check, Put and Get find. -/
import Derived.Test.YtnmlajmaffiigaaGreatDoorGl
import Derived.Test.YtnmlajmaffiigaaGreatDoorGx
import Derived.Test.YtnmlajmaffiigaaGreatDoorGw
import Derived.Deep.RegionWith
namespace Go.ZN
open Go.RowKit Go.VB Go.VS Go.VL Go.CK Go.VarM
/-- A zone: the number of rows, of nulls, the least and the greatest value. -/
structure Zn where
  rows : Int
  nulls : Int
  mn : Vl
  mx : Vl
def Zn.val (z : Zn) : Value := .agg #[.int .i64 z.rows, .int .i64 z.nulls, .bool z.mn.nu, .int .i64 z.mn.n, .string z.mn.s, .bool z.mx.nu, .int .i64 z.mx.n, .string z.mx.s]
def nulV : Vl := ⟨true, 0, ⟨#[]⟩⟩
def cmpV (typ : Int) (a b : Vl) : Int := cmp typ a.nu a.n a.s b.nu b.n b.s
theorem cmpV_bd (typ : Int) (a b : Vl) : -1 ≤ cmpV typ a b ∧ cmpV typ a b ≤ 1 := cmp_bd ..
theorem cmpV_neg (typ : Int) (a b : Vl) : cmpV typ b a = -cmpV typ a b := cmp_neg ..
theorem cmpV_le {typ : Int} {a b c : Vl} (h1 : cmpV typ a b ≤ 0) (h2 : cmpV typ b c ≤ 0) : cmpV typ a c ≤ 0 := cmp_le h1 h2
/-- The lesser (sg = -1) or the greater one (sg = 1) of the values that are not null. -/
def pck (typ sg : Int) (a b : Vl) : Vl := if a.nu then (if b.nu then nulV else b) else if b.nu then a else if cmpV typ b a = sg then b else a
theorem pck_nn {typ sg : Int} {a b : Vl} (ha : a.nu = true) (hb : b.nu = true) : pck typ sg a b = nulV := by unfold pck; rw [if_pos ha, if_pos hb]
theorem pck_n {typ sg : Int} {a b : Vl} (ha : a.nu = true) (hb : b.nu = false) : pck typ sg a b = b := by unfold pck; rw [if_pos ha, if_neg (by rw [hb]; decide)]
theorem pck_vn {typ sg : Int} {a b : Vl} (ha : a.nu = false) (hb : b.nu = true) : pck typ sg a b = a := by unfold pck; rw [if_neg (by rw [ha]; decide), if_pos hb]
theorem pck_vv {typ sg : Int} {a b : Vl} (ha : a.nu = false) (hb : b.nu = false) : pck typ sg a b = if cmpV typ b a = sg then b else a := by unfold pck; rw [if_neg (by rw [ha]; decide), if_neg (by rw [hb]; decide)]
/-- A null value without number and text, if it is null. -/
def Nrm (x : Vl) : Prop := x.nu = true → x = nulV
theorem nrm_nul : Nrm nulV := fun _ => rfl
theorem nrm_val {x : Vl} (h : x.nu = false) : Nrm x := fun e => by rw [h] at e; cases e
theorem pck_nrm (typ sg : Int) (a b : Vl) : Nrm (pck typ sg a b) := by
  cases ha : a.nu with
  | true =>
    cases hb : b.nu with
    | true => rw [pck_nn ha hb]; exact nrm_nul
    | false => rw [pck_n ha hb]; exact nrm_val hb
  | false =>
    cases hb : b.nu with
    | true => rw [pck_vn ha hb]; exact nrm_val ha
    | false =>
      rw [pck_vv ha hb]
      split
      · exact nrm_val hb
      · exact nrm_val ha
theorem pck_stay {typ sg : Int} {a b : Vl} (ha : Nrm a) (hb : b.nu = true) : pck typ sg a b = a := by
  cases h : a.nu with
  | true => rw [pck_nn h hb, ha h]
  | false => exact pck_vn h hb
/-- One value more. -/
def stp (typ : Int) (st : Nat × Vl × Vl) (x : Vl) : Nat × Vl × Vl := if x.nu then (st.1 + 1, st.2.1, st.2.2) else (st.1, pck typ (-1) st.2.1 x, pck typ 1 st.2.2 x)
def stz (typ : Int) (l : List Vl) : Nat × Vl × Vl := l.foldl (stp typ) (0, nulV, nulV)
/-- The zone of a list. -/
def zof (typ : Int) (l : List Vl) : Zn := ⟨l.length, (stz typ l).1, (stz typ l).2.1, (stz typ l).2.2⟩
theorem stz_snoc (typ : Int) (l : List Vl) (x : Vl) : stz typ (l ++ [x]) = stp typ (stz typ l) x := by unfold stz; rw [List.foldl_append]; rfl
theorem stz_take {typ : Int} {l : List Vl} {j : Nat} {x : Vl} (h : l[j]? = some x) : stz typ (l.take (j + 1)) = stp typ (stz typ (l.take j)) x := by
  rw [List.take_add_one, h]; exact stz_snoc typ _ x
theorem rev_ind {p : List Vl → Prop} (h0 : p []) (h1 : ∀ l x, p l → p (l ++ [x])) (l : List Vl) : p l := by
  have : ∀ n (l : List Vl), l.length = n → p l := by
    intro n
    induction n with
    | zero => intro l hl; rw [List.eq_nil_of_length_eq_zero hl]; exact h0
    | succ n ih =>
      intro l hl
      have hne : l ≠ [] := fun e => by rw [e] at hl; cases hl
      rw [← List.dropLast_concat_getLast hne]
      exact h1 _ _ (ih _ (by rw [List.length_dropLast]; omega))
  exact this l.length l rfl
theorem stz_nrm (typ : Int) (l : List Vl) : Nrm (stz typ l).2.1 ∧ Nrm (stz typ l).2.2 := by
  refine rev_ind (p := fun l => Nrm (stz typ l).2.1 ∧ Nrm (stz typ l).2.2) ⟨nrm_nul, nrm_nul⟩ (fun l x h => ?_) l
  rw [stz_snoc]
  unfold stp
  split
  · exact h
  · exact ⟨pck_nrm _ _ _ _, pck_nrm _ _ _ _⟩
/-- With a null value the same, told as one step for all values. -/
theorem stp_all {typ : Int} {st : Nat × Vl × Vl} {x : Vl} (h1 : Nrm st.2.1) (h2 : Nrm st.2.2) : stp typ st x = (st.1 + (if x.nu then 1 else 0), pck typ (-1) st.2.1 x, pck typ 1 st.2.2 x) := by
  unfold stp
  cases hx : x.nu with
  | true => rw [if_pos rfl, if_pos rfl, pck_stay h1 hx, pck_stay h2 hx]
  | false => rfl
theorem stz_le (typ : Int) (l : List Vl) : (stz typ l).1 ≤ l.length := by
  refine rev_ind (p := fun l => (stz typ l).1 ≤ l.length) (Nat.le_refl _) (fun l x h => ?_) l
  rw [stz_snoc, List.length_append, List.length_singleton]
  unfold stp
  split
  · exact Nat.succ_le_succ h
  · exact Nat.le_succ_of_le h
/-- No value of l is better than m, which is one of them, or nulV if there is none. -/
def isM (typ sg : Int) (l : List Vl) (m : Vl) : Prop := ((∀ x ∈ l, x.nu = true) ∧ m = nulV) ∨ (m ∈ l ∧ m.nu = false ∧ ∀ x ∈ l, x.nu = false → cmpV typ x m ≠ sg)
theorem nb_trans {typ sg : Int} (hs : sg = -1 ∨ sg = 1) {x m k : Vl} (h1 : cmpV typ x m ≠ sg) (h2 : cmpV typ m k ≠ sg) : cmpV typ x k ≠ sg := by
  obtain ⟨a1, a2⟩ := cmpV_bd typ x m
  obtain ⟨b1, b2⟩ := cmpV_bd typ m k
  obtain ⟨c1, c2⟩ := cmpV_bd typ x k
  rcases hs with rfl | rfl
  · have e1 := cmpV_neg typ x m
    have e2 := cmpV_neg typ m k
    have e3 := cmpV_neg typ x k
    have := cmpV_le (typ := typ) (a := k) (b := m) (c := x) (by omega) (by omega)
    omega
  · have := cmpV_le (typ := typ) (a := x) (b := m) (c := k) (by omega) (by omega)
    omega
theorem nb_of {typ sg : Int} (hs : sg = -1 ∨ sg = 1) {a b : Vl} (h : cmpV typ b a = sg) : cmpV typ a b ≠ sg := by
  have := cmpV_neg typ b a
  omega
theorem isM_nil (typ sg : Int) : isM typ sg [] nulV := .inl ⟨fun _ h => by simp at h, rfl⟩
theorem isM_one {typ sg : Int} (hs : sg = -1 ∨ sg = 1) {x : Vl} (hx : x.nu = false) : isM typ sg [x] x := by
  refine .inr ⟨List.mem_singleton.2 rfl, hx, fun y hy _ => ?_⟩
  rw [List.mem_singleton.1 hy]
  have := cmpV_neg typ x x
  omega
theorem isM_pck {typ sg : Int} (hs : sg = -1 ∨ sg = 1) {l l' : List Vl} {a b : Vl} (ha : isM typ sg l a) (hb : isM typ sg l' b) : isM typ sg (l ++ l') (pck typ sg a b) := by
  rcases ha with ⟨ha, rfl⟩ | ⟨a1, a2, a3⟩
  · rcases hb with ⟨hb, rfl⟩ | ⟨b1, b2, b3⟩
    · refine .inl ⟨fun x hx => ?_, pck_nn rfl rfl⟩
      rcases List.mem_append.1 hx with h | h
      · exact ha x h
      · exact hb x h
    · rw [pck_n rfl b2]
      refine .inr ⟨List.mem_append_right _ b1, b2, fun x hx hn => ?_⟩
      rcases List.mem_append.1 hx with h | h
      · rw [ha x h] at hn; cases hn
      · exact b3 x h hn
  · rcases hb with ⟨hb, rfl⟩ | ⟨b1, b2, b3⟩
    · rw [pck_vn a2 rfl]
      refine .inr ⟨List.mem_append_left _ a1, a2, fun x hx hn => ?_⟩
      rcases List.mem_append.1 hx with h | h
      · exact a3 x h hn
      · rw [hb x h] at hn; cases hn
    · rw [pck_vv a2 b2]
      split
      · rename_i h
        refine .inr ⟨List.mem_append_right _ b1, b2, fun x hx hn => ?_⟩
        rcases List.mem_append.1 hx with hx | hx
        · exact nb_trans hs (a3 x hx hn) (nb_of hs h)
        · exact b3 x hx hn
      · rename_i h
        refine .inr ⟨List.mem_append_left _ a1, a2, fun x hx hn => ?_⟩
        rcases List.mem_append.1 hx with hx | hx
        · exact a3 x hx hn
        · exact nb_trans hs (b3 x hx hn) h
theorem isM_null {typ sg : Int} {l : List Vl} {m x : Vl} (h : isM typ sg l m) (hx : x.nu = true) : isM typ sg (l ++ [x]) m := by
  rcases h with ⟨h, rfl⟩ | ⟨h1, h2, h3⟩
  · refine .inl ⟨fun y hy => ?_, rfl⟩
    rcases List.mem_append.1 hy with hy | hy
    · exact h y hy
    · rw [List.mem_singleton.1 hy]; exact hx
  · refine .inr ⟨List.mem_append_left _ h1, h2, fun y hy hn => ?_⟩
    rcases List.mem_append.1 hy with hy | hy
    · exact h3 y hy hn
    · rw [List.mem_singleton.1 hy, hx] at hn; cases hn
theorem isM_zof (typ : Int) (l : List Vl) : isM typ (-1) l (stz typ l).2.1 ∧ isM typ 1 l (stz typ l).2.2 := by
  refine rev_ind (p := fun l => isM typ (-1) l (stz typ l).2.1 ∧ isM typ 1 l (stz typ l).2.2) ⟨isM_nil .., isM_nil ..⟩ (fun l x h => ?_) l
  rw [stz_snoc]
  unfold stp
  cases hx : x.nu with
  | true => rw [if_pos rfl]; exact ⟨isM_null h.1 hx, isM_null h.2 hx⟩
  | false =>
    rw [if_neg (by decide)]
    exact ⟨isM_pck (.inl rfl) h.1 (isM_one (.inl rfl) hx), isM_pck (.inr rfl) h.2 (isM_one (.inr rfl) hx)⟩
end Go.ZN

namespace Go.ZN
open Go.RowKit Go.VB Go.VS Go.VL
theorem var3_at {w w1 : World} {n : Nat} {x y z : Value} {T : TypeId} (hn : w.heap.size = n) (hb : Below (w.alloc (.cells #[x, y, z] T)).heap.size (w.alloc (.cells #[x, y, z] T)) w1) : Var3 w1 n x y z := by
  subst hn; exact (Var3.new w x y z T).step hb
/-- One cell of another variable is written. -/
theorem var3_oth {w : World} {b c : Nat} {x y z : Value} (h : Var3 w b x y z) (hc : b ≠ c) (i : Nat) (u : Value) : Var3 (w.setCell ⟨c, i, none⟩ u) b x y z := by
  have hk : ∀ (i j : Nat), (⟨c, i, none⟩ : Addr) ≠ ⟨b, j, none⟩ := fun i j e => hc (congrArg Addr.block e).symm
  constructor
  · rw [World.cell?_setCell_other _ _ _ _ (hk _ _)]; exact h.c0
  · rw [World.cell?_setCell_other _ _ _ _ (hk _ _)]; exact h.c1
  · rw [World.cell?_setCell_other _ _ _ _ (hk _ _)]; exact h.c2
  · rw [World.frozen?_setCell]; exact h.f0
  · rw [World.frozen?_setCell]; exact h.f1
  · rw [World.frozen?_setCell]; exact h.f2
/-- A variable of eight cells in block b, which holds a zone. -/
structure VarZ (w : World) (b : Nat) (z : Zn) : Prop where
  c0 : w.cell? ⟨b, 0, none⟩ = some (.int .i64 z.rows)
  c1 : w.cell? ⟨b, 1, none⟩ = some (.int .i64 z.nulls)
  c2 : w.cell? ⟨b, 2, none⟩ = some (.bool z.mn.nu)
  c3 : w.cell? ⟨b, 3, none⟩ = some (.int .i64 z.mn.n)
  c4 : w.cell? ⟨b, 4, none⟩ = some (.string z.mn.s)
  c5 : w.cell? ⟨b, 5, none⟩ = some (.bool z.mx.nu)
  c6 : w.cell? ⟨b, 6, none⟩ = some (.int .i64 z.mx.n)
  c7 : w.cell? ⟨b, 7, none⟩ = some (.string z.mx.s)
  fr : ∀ i, i < 8 → w.frozen? ⟨b, i, none⟩ = false
section
variable {w w' w0 : World} {b c B : Nat} {z : Zn} {x y u : Value}
theorem VarZ.new (w : World) (z : Zn) (T : TypeId) : VarZ (w.alloc (.cells #[.int .i64 (z.rows), .int .i64 (z.nulls), .bool (z.mn.nu), .int .i64 (z.mn.n), .string (z.mn.s), .bool (z.mx.nu), .int .i64 (z.mx.n), .string (z.mx.s)] T)) w.heap.size z := by
  constructor
  · simp
  · simp
  · simp
  · simp
  · simp
  · simp
  · simp
  · simp
  · intro i hi
    simp
theorem VarZ.frz (h : VarZ w b z) : w.frozen? ⟨b, 0, none⟩ = false ∧ w.frozen? ⟨b, 1, none⟩ = false ∧ w.frozen? ⟨b, 2, none⟩ = false ∧ w.frozen? ⟨b, 3, none⟩ = false ∧ w.frozen? ⟨b, 4, none⟩ = false ∧ w.frozen? ⟨b, 5, none⟩ = false ∧ w.frozen? ⟨b, 6, none⟩ = false ∧ w.frozen? ⟨b, 7, none⟩ = false :=
  ⟨h.fr 0 (by decide), h.fr 1 (by decide), h.fr 2 (by decide), h.fr 3 (by decide), h.fr 4 (by decide), h.fr 5 (by decide), h.fr 6 (by decide), h.fr 7 (by decide)⟩
theorem VarZ.lt (h : VarZ w b z) : b < w.heap.size := World.block_lt_of_cell? w _ h.c0
theorem VarZ.below (h : VarZ w b z) (hb : Below B w w') (hB : b < B) : VarZ w' b z := by
  constructor
  · rw [hb.cell hB]; exact h.c0
  · rw [hb.cell hB]; exact h.c1
  · rw [hb.cell hB]; exact h.c2
  · rw [hb.cell hB]; exact h.c3
  · rw [hb.cell hB]; exact h.c4
  · rw [hb.cell hB]; exact h.c5
  · rw [hb.cell hB]; exact h.c6
  · rw [hb.cell hB]; exact h.c7
  · intro i hi; rw [hb.frozen hB]; exact h.fr i hi
theorem VarZ.step (h : VarZ w b z) (hb : Below w.heap.size w w') : VarZ w' b z := h.below hb h.lt
theorem VarZ.alloc (h : VarZ w b z) (o : Obj) : VarZ (w.alloc o) b z := h.step ((Below.refl _ _).alloc (Nat.le_refl _) o)
/-- One cell of another variable is written. -/
theorem VarZ.other (h : VarZ w b z) (hc : b ≠ c) (i : Nat) (x : Value) : VarZ (w.setCell ⟨c, i, none⟩ x) b z := by
  have hk : ∀ (i j : Nat), (⟨c, i, none⟩ : Addr) ≠ ⟨b, j, none⟩ := fun i j e => hc (congrArg Addr.block e).symm
  constructor
  · rw [World.cell?_setCell_other _ _ _ _ (hk _ _)]; exact h.c0
  · rw [World.cell?_setCell_other _ _ _ _ (hk _ _)]; exact h.c1
  · rw [World.cell?_setCell_other _ _ _ _ (hk _ _)]; exact h.c2
  · rw [World.cell?_setCell_other _ _ _ _ (hk _ _)]; exact h.c3
  · rw [World.cell?_setCell_other _ _ _ _ (hk _ _)]; exact h.c4
  · rw [World.cell?_setCell_other _ _ _ _ (hk _ _)]; exact h.c5
  · rw [World.cell?_setCell_other _ _ _ _ (hk _ _)]; exact h.c6
  · rw [World.cell?_setCell_other _ _ _ _ (hk _ _)]; exact h.c7
  · intro i hi; rw [World.frozen?_setCell]; exact h.fr i hi
theorem VarZ.set0 (h : VarZ w b z) (n : Int) : VarZ (w.setCell ⟨b, 0, none⟩ (.int .i64 n)) b ⟨n, z.nulls, z.mn, z.mx⟩ := by
  constructor
  · rw [World.cell?_setCell_same _ _ _ h.c0]
  · rw [World.cell?_setCell_other _ _ _ _ (by simp)]; exact h.c1
  · rw [World.cell?_setCell_other _ _ _ _ (by simp)]; exact h.c2
  · rw [World.cell?_setCell_other _ _ _ _ (by simp)]; exact h.c3
  · rw [World.cell?_setCell_other _ _ _ _ (by simp)]; exact h.c4
  · rw [World.cell?_setCell_other _ _ _ _ (by simp)]; exact h.c5
  · rw [World.cell?_setCell_other _ _ _ _ (by simp)]; exact h.c6
  · rw [World.cell?_setCell_other _ _ _ _ (by simp)]; exact h.c7
  · intro i hi; rw [World.frozen?_setCell]; exact h.fr i hi
theorem VarZ.set1 (h : VarZ w b z) (n : Int) : VarZ (w.setCell ⟨b, 1, none⟩ (.int .i64 n)) b ⟨z.rows, n, z.mn, z.mx⟩ := by
  constructor
  · rw [World.cell?_setCell_other _ _ _ _ (by simp)]; exact h.c0
  · rw [World.cell?_setCell_same _ _ _ h.c1]
  · rw [World.cell?_setCell_other _ _ _ _ (by simp)]; exact h.c2
  · rw [World.cell?_setCell_other _ _ _ _ (by simp)]; exact h.c3
  · rw [World.cell?_setCell_other _ _ _ _ (by simp)]; exact h.c4
  · rw [World.cell?_setCell_other _ _ _ _ (by simp)]; exact h.c5
  · rw [World.cell?_setCell_other _ _ _ _ (by simp)]; exact h.c6
  · rw [World.cell?_setCell_other _ _ _ _ (by simp)]; exact h.c7
  · intro i hi; rw [World.frozen?_setCell]; exact h.fr i hi
theorem VarZ.setV (h : VarZ w b z) (k : Nat) (hk : k = 2 ∨ k = 5) (v : Vl) : VarZ (((w.setCell ⟨b, k, none⟩ (.bool v.nu)).setCell ⟨b, k + 1, none⟩ (.int .i64 v.n)).setCell ⟨b, k + 2, none⟩ (.string v.s)) b (if k = 2 then ⟨z.rows, z.nulls, v, z.mx⟩ else ⟨z.rows, z.nulls, z.mn, v⟩) := by
  have o : ∀ (w : World) (i j : Nat) (x y : Value), i ≠ j → w.cell? ⟨b, j, none⟩ = some y → (w.setCell ⟨b, i, none⟩ x).cell? ⟨b, j, none⟩ = some y := fun w i j x y hij hy => by
    rw [World.cell?_setCell_other _ _ _ _ (fun e => hij (congrArg Addr.off e))]; exact hy
  have s : ∀ (w : World) (i : Nat) (x y : Value), w.cell? ⟨b, i, none⟩ = some y → (w.setCell ⟨b, i, none⟩ x).cell? ⟨b, i, none⟩ = some x := fun w i x y hy => World.cell?_setCell_same _ _ _ hy
  rcases hk with rfl | rfl
  · rw [if_pos rfl]
    constructor
    · exact o _ _ _ _ _ (by decide) (o _ _ _ _ _ (by decide) (o _ _ _ _ _ (by decide) h.c0))
    · exact o _ _ _ _ _ (by decide) (o _ _ _ _ _ (by decide) (o _ _ _ _ _ (by decide) h.c1))
    · exact o _ _ _ _ _ (by decide) (o _ _ _ _ _ (by decide) (s _ _ _ _ h.c2))
    · exact o _ _ _ _ _ (by decide) (s _ _ _ _ (o _ _ _ _ _ (by decide) h.c3))
    · exact s _ _ _ _ (o _ _ _ _ _ (by decide) (o _ _ _ _ _ (by decide) h.c4))
    · exact o _ _ _ _ _ (by decide) (o _ _ _ _ _ (by decide) (o _ _ _ _ _ (by decide) h.c5))
    · exact o _ _ _ _ _ (by decide) (o _ _ _ _ _ (by decide) (o _ _ _ _ _ (by decide) h.c6))
    · exact o _ _ _ _ _ (by decide) (o _ _ _ _ _ (by decide) (o _ _ _ _ _ (by decide) h.c7))
    · intro i hi; rw [World.frozen?_setCell, World.frozen?_setCell, World.frozen?_setCell]; exact h.fr i hi
  · rw [if_neg (by decide)]
    constructor
    · exact o _ _ _ _ _ (by decide) (o _ _ _ _ _ (by decide) (o _ _ _ _ _ (by decide) h.c0))
    · exact o _ _ _ _ _ (by decide) (o _ _ _ _ _ (by decide) (o _ _ _ _ _ (by decide) h.c1))
    · exact o _ _ _ _ _ (by decide) (o _ _ _ _ _ (by decide) (o _ _ _ _ _ (by decide) h.c2))
    · exact o _ _ _ _ _ (by decide) (o _ _ _ _ _ (by decide) (o _ _ _ _ _ (by decide) h.c3))
    · exact o _ _ _ _ _ (by decide) (o _ _ _ _ _ (by decide) (o _ _ _ _ _ (by decide) h.c4))
    · exact o _ _ _ _ _ (by decide) (o _ _ _ _ _ (by decide) (s _ _ _ _ h.c5))
    · exact o _ _ _ _ _ (by decide) (s _ _ _ _ (o _ _ _ _ _ (by decide) h.c6))
    · exact s _ _ _ _ (o _ _ _ _ _ (by decide) (o _ _ _ _ _ (by decide) h.c7))
    · intro i hi; rw [World.frozen?_setCell, World.frozen?_setCell, World.frozen?_setCell]; exact h.fr i hi
theorem VarZ.setMn (h : VarZ w b z) (v : Vl) : VarZ (((w.setCell ⟨b, 2, none⟩ (.bool v.nu)).setCell ⟨b, 3, none⟩ (.int .i64 v.n)).setCell ⟨b, 4, none⟩ (.string v.s)) b ⟨z.rows, z.nulls, v, z.mx⟩ := h.setV 2 (.inl rfl) v
theorem VarZ.setMx (h : VarZ w b z) (v : Vl) : VarZ (((w.setCell ⟨b, 5, none⟩ (.bool v.nu)).setCell ⟨b, 6, none⟩ (.int .i64 v.n)).setCell ⟨b, 7, none⟩ (.string v.s)) b ⟨z.rows, z.nulls, z.mn, v⟩ := h.setV 5 (.inr rfl) v
/-- A zone stored whole. -/
def put8 (w : World) (b : Nat) (z : Zn) : World := (((((((w.setCell ⟨b, 0, none⟩ (.int .i64 z.rows)).setCell ⟨b, 1, none⟩ (.int .i64 z.nulls)).setCell ⟨b, 2, none⟩ (.bool z.mn.nu)).setCell ⟨b, 3, none⟩ (.int .i64 z.mn.n)).setCell ⟨b, 4, none⟩ (.string z.mn.s)).setCell ⟨b, 5, none⟩ (.bool z.mx.nu)).setCell ⟨b, 6, none⟩ (.int .i64 z.mx.n)).setCell ⟨b, 7, none⟩ (.string z.mx.s)
theorem VarZ.put {z' : Zn} (h : VarZ w b z') (z : Zn) : VarZ (put8 w b z) b z := ((((h.set0 z.rows).set1 z.nulls).setMn z.mn).setMx z.mx)
theorem put8_below {z : Zn} (h : Below B w0 w) (hB : B ≤ b) : Below B w0 (put8 w b z) :=
  (((((((h.setCell (p := ⟨b, 0, none⟩) hB _).setCell (p := ⟨b, 1, none⟩) hB _).setCell (p := ⟨b, 2, none⟩) hB _).setCell (p := ⟨b, 3, none⟩) hB _).setCell (p := ⟨b, 4, none⟩) hB _).setCell (p := ⟨b, 5, none⟩) hB _).setCell (p := ⟨b, 6, none⟩) hB _).setCell (p := ⟨b, 7, none⟩) hB _
theorem set3V_below {k : Nat} (h : Below B w0 w) (hB : B ≤ b) : Below B w0 (((w.setCell ⟨b, k, none⟩ x).setCell ⟨b, k + 1, none⟩ y).setCell ⟨b, k + 2, none⟩ u) :=
  ((h.setCell (p := ⟨b, k, none⟩) hB x).setCell (p := ⟨b, k + 1, none⟩) hB y).setCell (p := ⟨b, k + 2, none⟩) hB u
end
end Go.ZN

namespace Go.Proofs.YtnmlajmaffiigaaGreatDoor
open Go.RowKit Go.VB Go.VL Go.VS Go.ZN
set_option maxRecDepth 100000 in
set_option maxHeartbeats 400000 in
theorem znull_any (w : World) : Calls Tryz.prog 125 #[] w (RetB (.agg #[.bool true, .int .i64 0, .string ⟨#[]⟩]) w) := by
  have hb : Below w.heap.size w (w.alloc (.cells #[.bool true, .int .i64 0, .string ⟨#[]⟩] 49)) := (Below.refl _ _).alloc (Nat.le_refl _) _
  go_enter Tryz.func125, Tryz.ntmps125
  go_wp2
  refine bodyPost_ret (v := (.agg #[.bool true, .int .i64 0, .string ⟨#[]⟩])) (by simp [results, Tryz.results125, go_sem]) rfl ?_
  exact RetB.mk rfl hb
set_option maxRecDepth 100000 in
set_option maxHeartbeats 1000000 in
theorem only_v (n : Int) (s : ByteArray) (y : Bool) (m : Int) (t : ByteArray) (w : World) : Calls Tryz.prog 160 #[(.agg #[.bool false, .int .i64 n, .string s]), (.agg #[.bool y, .int .i64 m, .string t])] w (RetB (.agg #[.bool false, .int .i64 n, .string s]) w) := by
  go_enter Tryz.func160, Tryz.ntmps160
  go_wp2
  refine bodyPost_ret (v := (.agg #[.bool false, .int .i64 n, .string s])) (by simp [results, Tryz.results160, go_sem]) rfl ?_
  exact RetB.mk rfl (by go_grown)
set_option maxRecDepth 100000 in
set_option maxHeartbeats 1000000 in
theorem only_n (n : Int) (s : ByteArray) (m : Int) (t : ByteArray) (w : World) : Calls Tryz.prog 160 #[(.agg #[.bool true, .int .i64 n, .string s]), (.agg #[.bool false, .int .i64 m, .string t])] w (RetB (.agg #[.bool false, .int .i64 m, .string t]) w) := by
  go_enter Tryz.func160, Tryz.ntmps160
  go_wp2
  refine bodyPost_ret (v := (.agg #[.bool false, .int .i64 m, .string t])) (by simp [results, Tryz.results160, go_sem]) rfl ?_
  exact RetB.mk rfl (by go_grown)
set_option maxRecDepth 100000 in
set_option maxHeartbeats 1000000 in
theorem only_nn (n : Int) (s : ByteArray) (m : Int) (t : ByteArray) (w : World) : Calls Tryz.prog 160 #[(.agg #[.bool true, .int .i64 n, .string s]), (.agg #[.bool true, .int .i64 m, .string t])] w (RetB (.agg #[.bool true, .int .i64 0, .string ⟨#[]⟩]) w) := by
  have H := fun w => Lib.hid (znull_any w)
  go_enter Tryz.func160, Tryz.ntmps160
  go_wp2_with fail
  (with_reducible refine (H _).out.mono ?_); rintro e w1 ⟨rfl, hb⟩
  have hV := var3_at (n := w.heap.size + 1 + 1) (by simp) hb
  have hB := bel_trans (show Below w.heap.size w _ from by go_grown) hb
  obtain ⟨k0, k1, k2, g0, g1, g2⟩ := id hV
  go_wp2
  obtain ⟨m0, m1, m2, _, _, _⟩ := hV.set (.bool true) (.int .i64 0) (.string ⟨#[]⟩)
  refine bodyPost_ret (v := (.agg #[.bool true, .int .i64 0, .string ⟨#[]⟩])) (by simp [results, Tryz.results160, go_sem, m0, m1, m2]) rfl ?_
  exact RetB.mk rfl (set3_below hB (by omega) _ _ _)
theorem only_any (x : Bool) (n : Int) (s : ByteArray) (y : Bool) (m : Int) (t : ByteArray) (ty sg : Int) (w : World) (h : x = true ∨ y = true) :
    Calls Tryz.prog 160 #[(.agg #[.bool x, .int .i64 n, .string s]), (.agg #[.bool y, .int .i64 m, .string t])] w (RetB (pck ty sg ⟨x, n, s⟩ ⟨y, m, t⟩).val w) := by
  cases x with
  | false =>
    cases y with
    | false => rcases h with h | h <;> cases h
    | true => rw [pck_vn rfl rfl]; exact only_v n s true m t w
  | true =>
    cases y with
    | false => rw [pck_n rfl rfl]; exact only_n n s m t w
    | true => rw [pck_nn rfl rfl]; exact only_nn n s m t w
set_option maxRecDepth 100000 in
set_option maxHeartbeats 1000000 in
theorem lesser_nul (ty : Int) (x : Bool) (n : Int) (s : ByteArray) (y : Bool) (m : Int) (t : ByteArray) (w : World) (h : x = true ∨ y = true) :
    Calls Tryz.prog 126 #[.int .i64 ty, (.agg #[.bool x, .int .i64 n, .string s]), (.agg #[.bool y, .int .i64 m, .string t])] w (RetB (pck ty (-1) ⟨x, n, s⟩ ⟨y, m, t⟩).val w) := by
  have H := fun w => Lib.hid (only_any x n s y m t ty (-1) w h)
  generalize pck ty (-1) ⟨x, n, s⟩ ⟨y, m, t⟩ = R at *
  obtain ⟨r1, r2, r3⟩ := R
  simp only [Vl.val] at H ⊢
  have hx : (x = true) ∨ (x = false ∧ y = true) := by
    cases x
    · right; rcases h with h | h
      · cases h
      · exact ⟨rfl, h⟩
    · left; rfl
  rcases hx with rfl | ⟨rfl, rfl⟩
  all_goals
    go_enter Tryz.func126, Tryz.ntmps126
    go_wp2_with fail
    (with_reducible refine (H _).out.mono ?_); rintro e w1 ⟨rfl, hb⟩
    have hV := var3_at (n := w.heap.size + 1 + 1) (by simp) hb
    have hB := bel_trans (show Below w.heap.size w _ from by go_grown) hb
    obtain ⟨k0, k1, k2, g0, g1, g2⟩ := id hV
    go_wp2
    obtain ⟨m0, m1, m2, _, _, _⟩ := hV.set (.bool r1) (.int .i64 r2) (.string r3)
    refine bodyPost_ret (v := (.agg #[.bool r1, .int .i64 r2, .string r3])) (by simp [results, Tryz.results126, go_sem, m0, m1, m2]) rfl ?_
    exact RetB.mk rfl (set3_below hB (by omega) _ _ _)
set_option maxRecDepth 100000 in
set_option maxHeartbeats 1000000 in
theorem lesser_val (ty : Int) (n : Int) (s : ByteArray) (m : Int) (t : ByteArray) (w : World) :
    Calls Tryz.prog 126 #[.int .i64 ty, (.agg #[.bool false, .int .i64 n, .string s]), (.agg #[.bool false, .int .i64 m, .string t])] w (RetB (pck ty (-1) ⟨false, n, s⟩ ⟨false, m, t⟩).val w) := by
  have H := fun w => Lib.hid (cmp_any ty false m t false n s w)
  have hp : pck ty (-1) ⟨false, n, s⟩ ⟨false, m, t⟩ = if cmp ty false m t false n s = (-1) then ⟨false, m, t⟩ else ⟨false, n, s⟩ := rfl
  rw [hp]; clear hp
  have hbd := cmp_bd ty false m t false n s
  generalize cmp ty false m t false n s = c at *
  by_cases hc : c = (-1)
  · rw [if_pos hc]
    have hd : decide (c <0) = true := decide_eq_true (by omega)
    clear hc hbd
    simp only [Vl.val]
    go_enter Tryz.func126, Tryz.ntmps126
    go_wp2_with fail
    (with_reducible refine (H _).out.mono ?_); rintro e w1 ⟨rfl, hb⟩
    have hW := var3_at (n := w.heap.size + 1 + 1) (by simp) hb
    have hX := (Var3.new (w.alloc (.cells #[.bool false, .int .i64 n, .string s] 49)) (.bool false) (.int .i64 m) (.string t) 49).step ((Below.refl _ _).alloc (Nat.le_refl _) (.cells #[.bool false, .int .i64 0, .string ⟨#[]⟩] 49)) |>.step hb
    rw [show (w.alloc (.cells #[.bool false, .int .i64 n, .string s] 49)).heap.size = w.heap.size + 1 from by simp] at hX
    have hB := bel_trans (show Below w.heap.size w _ from by go_grown) hb
    obtain ⟨k0, k1, k2, g0, g1, g2⟩ := id hW
    obtain ⟨j0, j1, j2, _, _, _⟩ := hX
    go_wp2
    obtain ⟨m0, m1, m2, _, _, _⟩ := hW.set (.bool false) (.int .i64 m) (.string t)
    refine bodyPost_ret (v := (.agg #[.bool false, .int .i64 m, .string t])) (by simp [results, Tryz.results126, go_sem, m0, m1, m2]) rfl ?_
    exact RetB.mk rfl (set3_below hB (by omega) _ _ _)
  · rw [if_neg hc]
    have hd : decide (c <0) = false := decide_eq_false (by omega)
    clear hc hbd
    simp only [Vl.val]
    go_enter Tryz.func126, Tryz.ntmps126
    go_wp2_with fail
    (with_reducible refine (H _).out.mono ?_); rintro e w1 ⟨rfl, hb⟩
    have hW := var3_at (n := w.heap.size + 1 + 1) (by simp) hb
    have hX := (Var3.new w (.bool false) (.int .i64 n) (.string s) 49).step ((Below.refl _ _).alloc (Nat.le_refl _) (.cells #[.bool false, .int .i64 m, .string t] 49)) |>.step ((Below.refl _ _).alloc (Nat.le_refl _) (.cells #[.bool false, .int .i64 0, .string ⟨#[]⟩] 49)) |>.step hb
    have hB := bel_trans (show Below w.heap.size w _ from by go_grown) hb
    obtain ⟨k0, k1, k2, g0, g1, g2⟩ := id hW
    obtain ⟨j0, j1, j2, _, _, _⟩ := hX
    go_wp2
    obtain ⟨m0, m1, m2, _, _, _⟩ := hW.set (.bool false) (.int .i64 n) (.string s)
    refine bodyPost_ret (v := (.agg #[.bool false, .int .i64 n, .string s])) (by simp [results, Tryz.results126, go_sem, m0, m1, m2]) rfl ?_
    exact RetB.mk rfl (set3_below hB (by omega) _ _ _)
theorem lesser_any (ty : Int) (x : Bool) (n : Int) (s : ByteArray) (y : Bool) (m : Int) (t : ByteArray) (w : World) :
    Calls Tryz.prog 126 #[.int .i64 ty, (.agg #[.bool x, .int .i64 n, .string s]), (.agg #[.bool y, .int .i64 m, .string t])] w (RetB (pck ty (-1) ⟨x, n, s⟩ ⟨y, m, t⟩).val w) := by
  cases x with
  | false =>
    cases y with
    | false => exact lesser_val ty n s m t w
    | true => exact lesser_nul ty false n s true m t w (.inr rfl)
  | true => exact lesser_nul ty true n s y m t w (.inl rfl)
set_option maxRecDepth 100000 in
set_option maxHeartbeats 1000000 in
theorem greater_nul (ty : Int) (x : Bool) (n : Int) (s : ByteArray) (y : Bool) (m : Int) (t : ByteArray) (w : World) (h : x = true ∨ y = true) :
    Calls Tryz.prog 127 #[.int .i64 ty, (.agg #[.bool x, .int .i64 n, .string s]), (.agg #[.bool y, .int .i64 m, .string t])] w (RetB (pck ty (1) ⟨x, n, s⟩ ⟨y, m, t⟩).val w) := by
  have H := fun w => Lib.hid (only_any x n s y m t ty (1) w h)
  generalize pck ty (1) ⟨x, n, s⟩ ⟨y, m, t⟩ = R at *
  obtain ⟨r1, r2, r3⟩ := R
  simp only [Vl.val] at H ⊢
  have hx : (x = true) ∨ (x = false ∧ y = true) := by
    cases x
    · right; rcases h with h | h
      · cases h
      · exact ⟨rfl, h⟩
    · left; rfl
  rcases hx with rfl | ⟨rfl, rfl⟩
  all_goals
    go_enter Tryz.func127, Tryz.ntmps127
    go_wp2_with fail
    (with_reducible refine (H _).out.mono ?_); rintro e w1 ⟨rfl, hb⟩
    have hV := var3_at (n := w.heap.size + 1 + 1) (by simp) hb
    have hB := bel_trans (show Below w.heap.size w _ from by go_grown) hb
    obtain ⟨k0, k1, k2, g0, g1, g2⟩ := id hV
    go_wp2
    obtain ⟨m0, m1, m2, _, _, _⟩ := hV.set (.bool r1) (.int .i64 r2) (.string r3)
    refine bodyPost_ret (v := (.agg #[.bool r1, .int .i64 r2, .string r3])) (by simp [results, Tryz.results127, go_sem, m0, m1, m2]) rfl ?_
    exact RetB.mk rfl (set3_below hB (by omega) _ _ _)
set_option maxRecDepth 100000 in
set_option maxHeartbeats 1000000 in
theorem greater_val (ty : Int) (n : Int) (s : ByteArray) (m : Int) (t : ByteArray) (w : World) :
    Calls Tryz.prog 127 #[.int .i64 ty, (.agg #[.bool false, .int .i64 n, .string s]), (.agg #[.bool false, .int .i64 m, .string t])] w (RetB (pck ty (1) ⟨false, n, s⟩ ⟨false, m, t⟩).val w) := by
  have H := fun w => Lib.hid (cmp_any ty false m t false n s w)
  have hp : pck ty (1) ⟨false, n, s⟩ ⟨false, m, t⟩ = if cmp ty false m t false n s = (1) then ⟨false, m, t⟩ else ⟨false, n, s⟩ := rfl
  rw [hp]; clear hp
  have hbd := cmp_bd ty false m t false n s
  generalize cmp ty false m t false n s = c at *
  by_cases hc : c = (1)
  · rw [if_pos hc]
    have hd : decide (c >0) = true := decide_eq_true (by omega)
    clear hc hbd
    simp only [Vl.val]
    go_enter Tryz.func127, Tryz.ntmps127
    go_wp2_with fail
    (with_reducible refine (H _).out.mono ?_); rintro e w1 ⟨rfl, hb⟩
    have hW := var3_at (n := w.heap.size + 1 + 1) (by simp) hb
    have hX := (Var3.new (w.alloc (.cells #[.bool false, .int .i64 n, .string s] 49)) (.bool false) (.int .i64 m) (.string t) 49).step ((Below.refl _ _).alloc (Nat.le_refl _) (.cells #[.bool false, .int .i64 0, .string ⟨#[]⟩] 49)) |>.step hb
    rw [show (w.alloc (.cells #[.bool false, .int .i64 n, .string s] 49)).heap.size = w.heap.size + 1 from by simp] at hX
    have hB := bel_trans (show Below w.heap.size w _ from by go_grown) hb
    obtain ⟨k0, k1, k2, g0, g1, g2⟩ := id hW
    obtain ⟨j0, j1, j2, _, _, _⟩ := hX
    go_wp2
    obtain ⟨m0, m1, m2, _, _, _⟩ := hW.set (.bool false) (.int .i64 m) (.string t)
    refine bodyPost_ret (v := (.agg #[.bool false, .int .i64 m, .string t])) (by simp [results, Tryz.results127, go_sem, m0, m1, m2]) rfl ?_
    exact RetB.mk rfl (set3_below hB (by omega) _ _ _)
  · rw [if_neg hc]
    have hd : decide (c >0) = false := decide_eq_false (by omega)
    clear hc hbd
    simp only [Vl.val]
    go_enter Tryz.func127, Tryz.ntmps127
    go_wp2_with fail
    (with_reducible refine (H _).out.mono ?_); rintro e w1 ⟨rfl, hb⟩
    have hW := var3_at (n := w.heap.size + 1 + 1) (by simp) hb
    have hX := (Var3.new w (.bool false) (.int .i64 n) (.string s) 49).step ((Below.refl _ _).alloc (Nat.le_refl _) (.cells #[.bool false, .int .i64 m, .string t] 49)) |>.step ((Below.refl _ _).alloc (Nat.le_refl _) (.cells #[.bool false, .int .i64 0, .string ⟨#[]⟩] 49)) |>.step hb
    have hB := bel_trans (show Below w.heap.size w _ from by go_grown) hb
    obtain ⟨k0, k1, k2, g0, g1, g2⟩ := id hW
    obtain ⟨j0, j1, j2, _, _, _⟩ := hX
    go_wp2
    obtain ⟨m0, m1, m2, _, _, _⟩ := hW.set (.bool false) (.int .i64 n) (.string s)
    refine bodyPost_ret (v := (.agg #[.bool false, .int .i64 n, .string s])) (by simp [results, Tryz.results127, go_sem, m0, m1, m2]) rfl ?_
    exact RetB.mk rfl (set3_below hB (by omega) _ _ _)
theorem greater_any (ty : Int) (x : Bool) (n : Int) (s : ByteArray) (y : Bool) (m : Int) (t : ByteArray) (w : World) :
    Calls Tryz.prog 127 #[.int .i64 ty, (.agg #[.bool x, .int .i64 n, .string s]), (.agg #[.bool y, .int .i64 m, .string t])] w (RetB (pck ty (1) ⟨x, n, s⟩ ⟨y, m, t⟩).val w) := by
  cases x with
  | false =>
    cases y with
    | false => exact greater_val ty n s m t w
    | true => exact greater_nul ty false n s true m t w (.inr rfl)
  | true => exact greater_nul ty true n s y m t w (.inl rfl)
end Go.Proofs.YtnmlajmaffiigaaGreatDoor

namespace Go.ZN
open Go.RowKit Go.VB Go.VS Go.VL
def zn0 : Zn := ⟨0, 0, vl0, vl0⟩
/-- The number of nulls of the zone in block b is written. -/
def incW (w : World) (b k : Nat) : World := w.setCell ⟨b, 1, none⟩ (.int .i64 (k : Int))
theorem incW_z {w : World} {b k : Nat} {z : Zn} (h : VarZ w b z) : VarZ (incW w b k) b ⟨z.rows, k, z.mn, z.mx⟩ := h.set1 _
theorem incW_o {w : World} {b c k : Nat} {z : Zn} (h : VarZ w b z) (hc : b ≠ c) : VarZ (incW w c k) b z := h.other hc 1 _
theorem incW_b {B b k : Nat} {w0 w : World} (h : Below B w0 w) (hB : B ≤ b) : Below B w0 (incW w b k) := h.setCell (p := ⟨b, 1, none⟩) hB _
theorem incW_s (w : World) (b k : Nat) : (incW w b k).heap.size = w.heap.size := World.size_setCell _ _ _
/-- The zone of the first j of n values. -/
def zpar (ty : Int) (n : Nat) (l : List Vl) (j : Nat) : Zn := ⟨n, (stz ty (l.take j)).1, (stz ty (l.take j)).2.1, (stz ty (l.take j)).2.2⟩
theorem zpar_all {ty : Int} {n : Nat} {l : List Vl} (h : n = l.length) : zpar ty n l n = zof ty l := by subst h; unfold zpar zof; rw [List.take_length]
theorem zpar_is {ty : Int} {n : Nat} {l : List Vl} {j k : Nat} {a b : Vl} (h : stz ty (l.take j) = (k, a, b)) : zpar ty n l j = ⟨n, k, a, b⟩ := by unfold zpar; rw [h]
end Go.ZN
namespace Go.Proofs.YtnmlajmaffiigaaGreatDoor
open Go.RowKit Go.VB Go.VL Go.VS Go.ZN
set_option linter.constructorNameAsVariable false
set_option maxRecDepth 100000 in
set_option maxHeartbeats 1000000 in
theorem zof_any (ty : Int) (v : Value) (l : List Vl) (W : World) (hr : RdL W W.heap.size v l) : Calls Tryz.prog 86 #[.int .i64 ty, v] W (RetB (zof ty l).val W) := by
  obtain ⟨A, c, n, rfl, hn, hc1, hc2⟩ := hr.bds
  have HR := Lib.hid hr; clear hr
  have HLN := Lib.hid hn
  have HN := fun w => Lib.hid (znull_any w)
  have HL := fun x n s y m t w => Lib.hid (lesser_any ty x n s y m t w)
  have HG := fun x n s y m t w => Lib.hid (greater_any ty x n s y m t w)
  have HV0 := Lib.hid (VarZ.new W zn0 59)
  have HB0 := Lib.hid ((Below.refl W.heap.size W).alloc (Nat.le_refl _) (.cells #[.int .i64 0, .int .i64 0, .bool false, .int .i64 0, .string ⟨#[]⟩, .bool false, .int .i64 0, .string ⟨#[]⟩] 59))
  have HS0 := Lib.hid (show (W.alloc (.cells #[.int .i64 0, .int .i64 0, .bool false, .int .i64 0, .string ⟨#[]⟩, .bool false, .int .i64 0, .string ⟨#[]⟩] 59)).heap.size = W.heap.size + 1 by simp)
  have hn2 : n ≤ 9223372036854775807 := Nat.le_trans hc1 hc2
  clear hn hc1 hc2
  go_enter Tryz.func86, Tryz.ntmps86
  go_wp2_with fail
  (with_reducible refine (HN _).out.mono ?_); rintro e w1 ⟨rfl, hb1⟩
  go_wp2_with fail
  (with_reducible refine (HN _).out.mono ?_); rintro e w2 ⟨rfl, hb2⟩
  have hX := VarZ.new w2 ⟨(n : Int), 0, nulV, nulV⟩ 59
  have hb3 := (Below.refl w2.heap.size w2).alloc (Nat.le_refl _) (.cells #[.int .i64 (n : Int), .int .i64 0, .bool true, .int .i64 0, .string ⟨#[]⟩, .bool true, .int .i64 0, .string ⟨#[]⟩] 59)
  have hres := ((HV0.out.step hb1).step hb2).step hb3
  have hBX := bel_trans (bel_trans (bel_trans HB0.out hb1) hb2) hb3
  have hlt : W.heap.size < w2.heap.size := by have := hb1.size; have := hb2.size; rw [HS0.out] at *; omega
  have HX := Lib.hid hX; have HRES := Lib.hid hres; have HBX := Lib.hid hBX
  clear hb1 hb2 hb3 hX hres hBX
  go_wp2_with fail
  go_loopw [15] (fun iv wr => ∃ j : Nat, iv = .int .i64 j ∧ j ≤ n ∧ Below W.heap.size W wr ∧ VarZ wr w2.heap.size (zpar ty n l j) ∧ VarZ wr W.heap.size zn0) (fun iv _ => n - (intOf iv).toNat)
  case atStart => exact ⟨0, rfl, Nat.zero_le _, HBX.out, HX.out, HRES.out⟩
  case round =>
    obtain ⟨j, rfl, hj, hbel, hz, hres⟩ := hrel
    have HRES2 := Lib.hid hres; have HBEL := Lib.hid hbel
    by_cases hjn : j < n
    · have hlj : l[j]? = some (l[j]'(by rw [← HLN.out]; exact hjn)) := List.getElem?_eq_getElem _
      obtain ⟨ad, rfl, _, q0, q1, q2⟩ := (HR.out.below hbel).at hlj
      have HT := Lib.hid ((stz_take (typ := ty) hlj).trans (stp_all (stz_nrm ty _).1 (stz_nrm ty _).2))
      have hkb := stz_le ty (l.take j)
      rw [List.length_take] at hkb
      generalize l[j] = V at q0 q1 q2 HT
      unfold zpar at hz
      generalize stz ty (l.take j) = st at hz HT hkb
      obtain ⟨k, ⟨mb, mi, ms⟩, ⟨xb, xi, xs⟩⟩ := st
      obtain ⟨vb, vi, vs⟩ := V
      simp only at q0 q1 q2 hkb hz HT
      have hk : k + 1 ≤ n := by omega
      have HZ := Lib.hid hz
      have hwb : w2.heap.size < wr.heap.size := hz.lt
      obtain ⟨z0, z1, z2, z3, z4, z5, z6, z7, zf⟩ := hz
      have zf1 := zf 1 (by decide)
      simp only at z0 z1 z2 z3 z4 z5 z6 z7
      have hw : wrap64 ((k : Int) + 1) = ((k + 1 : Nat) : Int) := by unfold wrap64; omega
      clear hkb hlj hres hbel zf
      have HZt := Lib.hid (incW_z (k := k + 1) HZ.out); have HRt := Lib.hid (incW_o (c := w2.heap.size) (k := k + 1) HRES2.out (by omega)); have HBt := Lib.hid (incW_b (b := w2.heap.size) (k := k + 1) HBEL.out (by omega))
      cases vb
      · have hzA := VarZ.alloc HZ.out (.cells #[.bool false, .int .i64 vi, .string vs] 49)
        have hrA := VarZ.alloc HRES2.out (.cells #[.bool false, .int .i64 vi, .string vs] 49)
        have hvA := Var3.new wr (.bool false) (.int .i64 vi) (.string vs) 49
        have hbA := bel_trans HBEL.out ((Below.refl _ _).alloc (Nat.le_refl _) (.cells #[.bool false, .int .i64 vi, .string vs] 49))
        (try rw [incW_s] at hvA)
        have HZA := Lib.hid hzA; have HRA := Lib.hid hrA; have HVA := Lib.hid hvA; have HBA := Lib.hid hbA
        clear hzA hrA hvA hbA
        go_wp2_with fail
        (with_reducible refine (HL _ _ _ _ _ _ _).out.mono ?_); rintro e w3 ⟨rfl, hb3⟩
        have hz3 := HZA.out.step hb3; have hr3 := HRA.out.step hb3; have hv3 := HVA.out.step hb3; have hB3 := bel_trans HBA.out hb3
        clear hb3 z0 z1 z2 z3 z4 z5 z6 z7 zf1 q0 q1 q2
        generalize pck ty (-1) ⟨mb, mi, ms⟩ ⟨false, vi, vs⟩ = P at HT ⊢
        obtain ⟨pb, pi, ps⟩ := P
        simp only [Vl.val]
        have HZ4 := Lib.hid (hz3.setMn ⟨pb, pi, ps⟩)
        have HR4 := Lib.hid (((hr3.other (show W.heap.size ≠ w2.heap.size by omega) 2 (.bool pb)).other (show W.heap.size ≠ w2.heap.size by omega) 3 (.int .i64 pi)).other (show W.heap.size ≠ w2.heap.size by omega) 4 (.string ps))
        have HV4 := Lib.hid (var3_oth (var3_oth (var3_oth hv3 (show wr.heap.size ≠ w2.heap.size by omega) 2 (.bool pb)) (show wr.heap.size ≠ w2.heap.size by omega) 3 (.int .i64 pi)) (show wr.heap.size ≠ w2.heap.size by omega) 4 (.string ps))
        have HB4 := Lib.hid (set3V_below (k := 2) (x := .bool pb) (y := .int .i64 pi) (u := .string ps) hB3 (show W.heap.size ≤ w2.heap.size by omega))
        obtain ⟨_, _, g2, g3, g4, _, _, _⟩ := hz3.frz
        obtain ⟨z0, z1, z2, z3, z4, z5, z6, z7, _⟩ := hz3
        obtain ⟨y0, y1, y2, y3, y4, y5, y6, y7, _⟩ := HZ4.out
        obtain ⟨a0, a1, a2, _, _, _⟩ := hv3
        obtain ⟨c0, c1, c2, _, _, _⟩ := HV4.out
        simp only at z0 z1 z2 z3 z4 z5 z6 z7 y0 y1 y2 y3 y4 y5 y6 y7
        clear hr3 hB3
        go_wp2_with fail
        (with_reducible refine (HG _ _ _ _ _ _ _).out.mono ?_); rintro e w5 ⟨rfl, hb5⟩
        have hz5 := HZ4.out.step hb5; have hr5 := HR4.out.step hb5; have hB5 := bel_trans HB4.out hb5
        clear hb5 z0 z1 z2 z3 z4 z5 z6 z7 y0 y1 y2 y3 y4 y5 y6 y7 a0 a1 a2 c0 c1 c2 g2 g3 g4 HZ4 HR4 HV4 HB4
        generalize pck ty 1 ⟨xb, xi, xs⟩ ⟨false, vi, vs⟩ = Q at HT ⊢
        obtain ⟨ob, oi, os⟩ := Q
        simp only [Vl.val]
        have HZ6 := Lib.hid (hz5.setMx ⟨ob, oi, os⟩)
        have HR6 := Lib.hid (((hr5.other (show W.heap.size ≠ w2.heap.size by omega) 5 (.bool ob)).other (show W.heap.size ≠ w2.heap.size by omega) 6 (.int .i64 oi)).other (show W.heap.size ≠ w2.heap.size by omega) 7 (.string os))
        have HB6 := Lib.hid (set3V_below (k := 5) (x := .bool ob) (y := .int .i64 oi) (u := .string os) hB5 (show W.heap.size ≤ w2.heap.size by omega))
        obtain ⟨_, _, _, _, _, g5, g6, g7⟩ := hz5.frz
        obtain ⟨z0, z1, z2, z3, z4, z5, z6, z7, _⟩ := hz5
        simp only at z0 z1 z2 z3 z4 z5 z6 z7
        clear hr5 hB5
        go_wp2_with fail
        go_roundw
        case rel => exact ⟨j + 1, by go_num, hjn, HB6.out, by rw [zpar_is (k := k) HT.out]; exact HZ6.out, HR6.out⟩
        case measure => simp [intOf] <;> omega
      · have hzA := VarZ.alloc HZt.out (.cells #[.bool true, .int .i64 vi, .string vs] 49)
        have hrA := VarZ.alloc HRt.out (.cells #[.bool true, .int .i64 vi, .string vs] 49)
        have hvA := Var3.new (incW wr w2.heap.size (k+1)) (.bool true) (.int .i64 vi) (.string vs) 49
        have hbA := bel_trans HBt.out ((Below.refl _ _).alloc (Nat.le_refl _) (.cells #[.bool true, .int .i64 vi, .string vs] 49))
        (try rw [incW_s] at hvA)
        have HZA := Lib.hid hzA; have HRA := Lib.hid hrA; have HVA := Lib.hid hvA; have HBA := Lib.hid hbA
        clear hzA hrA hvA hbA
        go_wp2_with fail
        (with_reducible refine (HL _ _ _ _ _ _ _).out.mono ?_); rintro e w3 ⟨rfl, hb3⟩
        have hz3 := HZA.out.step hb3; have hr3 := HRA.out.step hb3; have hv3 := HVA.out.step hb3; have hB3 := bel_trans HBA.out hb3
        clear hb3 z0 z1 z2 z3 z4 z5 z6 z7 zf1 q0 q1 q2
        generalize pck ty (-1) ⟨mb, mi, ms⟩ ⟨true, vi, vs⟩ = P at HT ⊢
        obtain ⟨pb, pi, ps⟩ := P
        simp only [Vl.val]
        have HZ4 := Lib.hid (hz3.setMn ⟨pb, pi, ps⟩)
        have HR4 := Lib.hid (((hr3.other (show W.heap.size ≠ w2.heap.size by omega) 2 (.bool pb)).other (show W.heap.size ≠ w2.heap.size by omega) 3 (.int .i64 pi)).other (show W.heap.size ≠ w2.heap.size by omega) 4 (.string ps))
        have HV4 := Lib.hid (var3_oth (var3_oth (var3_oth hv3 (show wr.heap.size ≠ w2.heap.size by omega) 2 (.bool pb)) (show wr.heap.size ≠ w2.heap.size by omega) 3 (.int .i64 pi)) (show wr.heap.size ≠ w2.heap.size by omega) 4 (.string ps))
        have HB4 := Lib.hid (set3V_below (k := 2) (x := .bool pb) (y := .int .i64 pi) (u := .string ps) hB3 (show W.heap.size ≤ w2.heap.size by omega))
        obtain ⟨_, _, g2, g3, g4, _, _, _⟩ := hz3.frz
        obtain ⟨z0, z1, z2, z3, z4, z5, z6, z7, _⟩ := hz3
        obtain ⟨y0, y1, y2, y3, y4, y5, y6, y7, _⟩ := HZ4.out
        obtain ⟨a0, a1, a2, _, _, _⟩ := hv3
        obtain ⟨c0, c1, c2, _, _, _⟩ := HV4.out
        simp only at z0 z1 z2 z3 z4 z5 z6 z7 y0 y1 y2 y3 y4 y5 y6 y7
        clear hr3 hB3
        go_wp2_with fail
        (with_reducible refine (HG _ _ _ _ _ _ _).out.mono ?_); rintro e w5 ⟨rfl, hb5⟩
        have hz5 := HZ4.out.step hb5; have hr5 := HR4.out.step hb5; have hB5 := bel_trans HB4.out hb5
        clear hb5 z0 z1 z2 z3 z4 z5 z6 z7 y0 y1 y2 y3 y4 y5 y6 y7 a0 a1 a2 c0 c1 c2 g2 g3 g4 HZ4 HR4 HV4 HB4
        generalize pck ty 1 ⟨xb, xi, xs⟩ ⟨true, vi, vs⟩ = Q at HT ⊢
        obtain ⟨ob, oi, os⟩ := Q
        simp only [Vl.val]
        have HZ6 := Lib.hid (hz5.setMx ⟨ob, oi, os⟩)
        have HR6 := Lib.hid (((hr5.other (show W.heap.size ≠ w2.heap.size by omega) 5 (.bool ob)).other (show W.heap.size ≠ w2.heap.size by omega) 6 (.int .i64 oi)).other (show W.heap.size ≠ w2.heap.size by omega) 7 (.string os))
        have HB6 := Lib.hid (set3V_below (k := 5) (x := .bool ob) (y := .int .i64 oi) (u := .string os) hB5 (show W.heap.size ≤ w2.heap.size by omega))
        obtain ⟨_, _, _, _, _, g5, g6, g7⟩ := hz5.frz
        obtain ⟨z0, z1, z2, z3, z4, z5, z6, z7, _⟩ := hz5
        simp only at z0 z1 z2 z3 z4 z5 z6 z7
        clear hr5 hB5
        go_wp2_with fail
        go_roundw
        case rel => exact ⟨j + 1, by go_num, hjn, HB6.out, by rw [zpar_is (k := (k+1)) HT.out]; exact HZ6.out, HR6.out⟩
        case measure => simp [intOf] <;> omega
    · have ej : j = n := by omega
      rw [ej, zpar_all HLN.out] at hz
      clear ej hj
      generalize hZ : zof ty l = Z at hz
      obtain ⟨zr, zu, ⟨mb, mi, ms⟩, ⟨xb, xi, xs⟩⟩ := Z
      have HZZ := Lib.hid hZ
      clear hZ
      have hP := hres.put ⟨zr, zu, ⟨mb, mi, ms⟩, ⟨xb, xi, xs⟩⟩
      have HPB := Lib.hid (put8_below (z := ⟨zr, zu, ⟨mb, mi, ms⟩, ⟨xb, xi, xs⟩⟩) hbel (Nat.le_refl _))
      unfold put8 at hP HPB
      have HP := Lib.hid hP
      obtain ⟨f0, f1, f2, f3, f4, f5, f6, f7⟩ := hres.frz
      obtain ⟨r0, r1, r2, r3, r4, r5, r6, r7, _⟩ := hres
      obtain ⟨z0, z1, z2, z3, z4, z5, z6, z7, _⟩ := hz
      simp only at z0 z1 z2 z3 z4 z5 z6 z7
      clear hP hbel
      go_wp2
      obtain ⟨m0, m1, m2, m3, m4, m5, m6, m7, _⟩ := HP.out
      simp only at m0 m1 m2 m3 m4 m5 m6 m7
      refine bodyPost_ret (v := (.agg #[.int .i64 zr, .int .i64 zu, .bool mb, .int .i64 mi, .string ms, .bool xb, .int .i64 xi, .string xs])) (by simp [results, Tryz.results86, go_sem, m0, m1, m2, m3, m4, m5, m6, m7]) rfl ?_
      exact RetB.mk (by rw [HZZ.out]; rfl) HPB.out
end Go.Proofs.YtnmlajmaffiigaaGreatDoor
