/- Zones: what Of, Join, Check, Put and Get find. -/
import Derived.Test.YthohmngckpjlbaaVls
import Derived.Test.YthohmngckpjlbaaValT0
namespace Go.ZN
open Go.RowKit Go.VB Go.VS Go.VL Go.CK Go.VarM
/-- A zone: the number of rows, of nulls, the least and the greatest value. -/
structure Zn where
  rows : Int
  nulls : Int
  mn : Vl
  mx : Vl
def Zn.val (z : Zn) : Value := .agg #[.int .i64 z.rows, .int .i64 z.nulls, .bool z.mn.nu, .int .i64 z.mn.n, .string z.mn.s, .bool z.mx.nu, .int .i64 z.mx.n, .string z.mx.s]
def nulV : Vl := ⟨true, 0, ⟨#[]⟩⟩
def cmpV (typ : Int) (a b : Vl) : Int := cmp typ a.nu a.n a.s b.nu b.n b.s
theorem cmpV_bd (typ : Int) (a b : Vl) : -1 ≤ cmpV typ a b ∧ cmpV typ a b ≤ 1 := cmp_bd ..
theorem cmpV_neg (typ : Int) (a b : Vl) : cmpV typ b a = -cmpV typ a b := cmp_neg ..
theorem cmpV_le {typ : Int} {a b c : Vl} (h1 : cmpV typ a b ≤ 0) (h2 : cmpV typ b c ≤ 0) : cmpV typ a c ≤ 0 := cmp_le h1 h2
/-- The lesser (sg = -1) or the greater one (sg = 1) of the values that are not null. -/
def pck (typ sg : Int) (a b : Vl) : Vl := if a.nu then (if b.nu then nulV else b) else if b.nu then a else if cmpV typ b a = sg then b else a
theorem pck_nn {typ sg : Int} {a b : Vl} (ha : a.nu = true) (hb : b.nu = true) : pck typ sg a b = nulV := by unfold pck; rw [if_pos ha, if_pos hb]
theorem pck_n {typ sg : Int} {a b : Vl} (ha : a.nu = true) (hb : b.nu = false) : pck typ sg a b = b := by unfold pck; rw [if_pos ha, if_neg (by rw [hb]; decide)]
theorem pck_vn {typ sg : Int} {a b : Vl} (ha : a.nu = false) (hb : b.nu = true) : pck typ sg a b = a := by unfold pck; rw [if_neg (by rw [ha]; decide), if_pos hb]
theorem pck_vv {typ sg : Int} {a b : Vl} (ha : a.nu = false) (hb : b.nu = false) : pck typ sg a b = if cmpV typ b a = sg then b else a := by unfold pck; rw [if_neg (by rw [ha]; decide), if_neg (by rw [hb]; decide)]
/-- A null value without number and text, if it is null. -/
def Nrm (x : Vl) : Prop := x.nu = true → x = nulV
theorem nrm_nul : Nrm nulV := fun _ => rfl
theorem nrm_val {x : Vl} (h : x.nu = false) : Nrm x := fun e => by rw [h] at e; cases e
theorem pck_nrm (typ sg : Int) (a b : Vl) : Nrm (pck typ sg a b) := by
  cases ha : a.nu with
  | true =>
    cases hb : b.nu with
    | true => rw [pck_nn ha hb]; exact nrm_nul
    | false => rw [pck_n ha hb]; exact nrm_val hb
  | false =>
    cases hb : b.nu with
    | true => rw [pck_vn ha hb]; exact nrm_val ha
    | false =>
      rw [pck_vv ha hb]
      split
      · exact nrm_val hb
      · exact nrm_val ha
theorem pck_stay {typ sg : Int} {a b : Vl} (ha : Nrm a) (hb : b.nu = true) : pck typ sg a b = a := by
  cases h : a.nu with
  | true => rw [pck_nn h hb, ha h]
  | false => exact pck_vn h hb
/-- One value more. -/
def stp (typ : Int) (st : Nat × Vl × Vl) (x : Vl) : Nat × Vl × Vl := if x.nu then (st.1 + 1, st.2.1, st.2.2) else (st.1, pck typ (-1) st.2.1 x, pck typ 1 st.2.2 x)
def stz (typ : Int) (l : List Vl) : Nat × Vl × Vl := l.foldl (stp typ) (0, nulV, nulV)
/-- The zone of a list. -/
def zof (typ : Int) (l : List Vl) : Zn := ⟨l.length, (stz typ l).1, (stz typ l).2.1, (stz typ l).2.2⟩
theorem stz_nil (typ : Int) : stz typ [] = (0, nulV, nulV) := rfl
theorem stz_snoc (typ : Int) (l : List Vl) (x : Vl) : stz typ (l ++ [x]) = stp typ (stz typ l) x := by unfold stz; rw [List.foldl_append]; rfl
theorem stz_take {typ : Int} {l : List Vl} {j : Nat} {x : Vl} (h : l[j]? = some x) : stz typ (l.take (j + 1)) = stp typ (stz typ (l.take j)) x := by
  rw [List.take_add_one, h]; exact stz_snoc typ _ x
theorem rev_ind {p : List Vl → Prop} (h0 : p []) (h1 : ∀ l x, p l → p (l ++ [x])) (l : List Vl) : p l := by
  have : ∀ n (l : List Vl), l.length = n → p l := by
    intro n
    induction n with
    | zero => intro l hl; rw [List.eq_nil_of_length_eq_zero hl]; exact h0
    | succ n ih =>
      intro l hl
      have hne : l ≠ [] := fun e => by rw [e] at hl; cases hl
      rw [← List.dropLast_concat_getLast hne]
      exact h1 _ _ (ih _ (by rw [List.length_dropLast]; omega))
  exact this l.length l rfl
theorem stz_nrm (typ : Int) (l : List Vl) : Nrm (stz typ l).2.1 ∧ Nrm (stz typ l).2.2 := by
  refine rev_ind (p := fun l => Nrm (stz typ l).2.1 ∧ Nrm (stz typ l).2.2) ⟨nrm_nul, nrm_nul⟩ (fun l x h => ?_) l
  rw [stz_snoc]
  unfold stp
  split
  · exact h
  · exact ⟨pck_nrm _ _ _ _, pck_nrm _ _ _ _⟩
/-- With a null value the same, told as one step for all values. -/
theorem stp_all {typ : Int} {st : Nat × Vl × Vl} {x : Vl} (h1 : Nrm st.2.1) (h2 : Nrm st.2.2) : stp typ st x = (st.1 + (if x.nu then 1 else 0), pck typ (-1) st.2.1 x, pck typ 1 st.2.2 x) := by
  unfold stp
  cases hx : x.nu with
  | true => rw [if_pos rfl, if_pos rfl, pck_stay h1 hx, pck_stay h2 hx]
  | false => rfl
theorem stz_le (typ : Int) (l : List Vl) : (stz typ l).1 ≤ l.length := by
  refine rev_ind (p := fun l => (stz typ l).1 ≤ l.length) (Nat.le_refl _) (fun l x h => ?_) l
  rw [stz_snoc, List.length_append, List.length_singleton]
  unfold stp
  split
  · exact Nat.succ_le_succ h
  · exact Nat.le_succ_of_le h
theorem stz_count (typ : Int) (l : List Vl) : (stz typ l).1 = l.countP Vl.nu := by
  refine rev_ind (p := fun l => (stz typ l).1 = l.countP Vl.nu) rfl (fun l x h => ?_) l
  rw [stz_snoc, List.countP_append, ← h]
  unfold stp
  cases hx : x.nu with
  | true => simp [hx]
  | false => simp [hx]
/-- No value of l is better than m, which is one of them, or nulV if there is none. -/
def isM (typ sg : Int) (l : List Vl) (m : Vl) : Prop := ((∀ x ∈ l, x.nu = true) ∧ m = nulV) ∨ (m ∈ l ∧ m.nu = false ∧ ∀ x ∈ l, x.nu = false → cmpV typ x m ≠ sg)
theorem nb_trans {typ sg : Int} (hs : sg = -1 ∨ sg = 1) {x m k : Vl} (h1 : cmpV typ x m ≠ sg) (h2 : cmpV typ m k ≠ sg) : cmpV typ x k ≠ sg := by
  obtain ⟨a1, a2⟩ := cmpV_bd typ x m
  obtain ⟨b1, b2⟩ := cmpV_bd typ m k
  obtain ⟨c1, c2⟩ := cmpV_bd typ x k
  rcases hs with rfl | rfl
  · have e1 := cmpV_neg typ x m
    have e2 := cmpV_neg typ m k
    have e3 := cmpV_neg typ x k
    have := cmpV_le (typ := typ) (a := k) (b := m) (c := x) (by omega) (by omega)
    omega
  · have := cmpV_le (typ := typ) (a := x) (b := m) (c := k) (by omega) (by omega)
    omega
theorem nb_of {typ sg : Int} (hs : sg = -1 ∨ sg = 1) {a b : Vl} (h : cmpV typ b a = sg) : cmpV typ a b ≠ sg := by
  have := cmpV_neg typ b a
  omega
theorem isM_nil (typ sg : Int) : isM typ sg [] nulV := .inl ⟨fun _ h => by simp at h, rfl⟩
theorem isM_one {typ sg : Int} (hs : sg = -1 ∨ sg = 1) {x : Vl} (hx : x.nu = false) : isM typ sg [x] x := by
  refine .inr ⟨List.mem_singleton.2 rfl, hx, fun y hy _ => ?_⟩
  rw [List.mem_singleton.1 hy]
  have := cmpV_neg typ x x
  omega
theorem isM_pck {typ sg : Int} (hs : sg = -1 ∨ sg = 1) {l l' : List Vl} {a b : Vl} (ha : isM typ sg l a) (hb : isM typ sg l' b) : isM typ sg (l ++ l') (pck typ sg a b) := by
  rcases ha with ⟨ha, rfl⟩ | ⟨a1, a2, a3⟩
  · rcases hb with ⟨hb, rfl⟩ | ⟨b1, b2, b3⟩
    · refine .inl ⟨fun x hx => ?_, pck_nn rfl rfl⟩
      rcases List.mem_append.1 hx with h | h
      · exact ha x h
      · exact hb x h
    · rw [pck_n rfl b2]
      refine .inr ⟨List.mem_append_right _ b1, b2, fun x hx hn => ?_⟩
      rcases List.mem_append.1 hx with h | h
      · rw [ha x h] at hn; cases hn
      · exact b3 x h hn
  · rcases hb with ⟨hb, rfl⟩ | ⟨b1, b2, b3⟩
    · rw [pck_vn a2 rfl]
      refine .inr ⟨List.mem_append_left _ a1, a2, fun x hx hn => ?_⟩
      rcases List.mem_append.1 hx with h | h
      · exact a3 x h hn
      · rw [hb x h] at hn; cases hn
    · rw [pck_vv a2 b2]
      split
      · rename_i h
        refine .inr ⟨List.mem_append_right _ b1, b2, fun x hx hn => ?_⟩
        rcases List.mem_append.1 hx with hx | hx
        · exact nb_trans hs (a3 x hx hn) (nb_of hs h)
        · exact b3 x hx hn
      · rename_i h
        refine .inr ⟨List.mem_append_left _ a1, a2, fun x hx hn => ?_⟩
        rcases List.mem_append.1 hx with hx | hx
        · exact a3 x hx hn
        · exact nb_trans hs (b3 x hx hn) h
theorem isM_null {typ sg : Int} {l : List Vl} {m x : Vl} (h : isM typ sg l m) (hx : x.nu = true) : isM typ sg (l ++ [x]) m := by
  rcases h with ⟨h, rfl⟩ | ⟨h1, h2, h3⟩
  · refine .inl ⟨fun y hy => ?_, rfl⟩
    rcases List.mem_append.1 hy with hy | hy
    · exact h y hy
    · rw [List.mem_singleton.1 hy]; exact hx
  · refine .inr ⟨List.mem_append_left _ h1, h2, fun y hy hn => ?_⟩
    rcases List.mem_append.1 hy with hy | hy
    · exact h3 y hy hn
    · rw [List.mem_singleton.1 hy, hx] at hn; cases hn
theorem isM_zof (typ : Int) (l : List Vl) : isM typ (-1) l (stz typ l).2.1 ∧ isM typ 1 l (stz typ l).2.2 := by
  refine rev_ind (p := fun l => isM typ (-1) l (stz typ l).2.1 ∧ isM typ 1 l (stz typ l).2.2) ⟨isM_nil .., isM_nil ..⟩ (fun l x h => ?_) l
  rw [stz_snoc]
  unfold stp
  cases hx : x.nu with
  | true => rw [if_pos rfl]; exact ⟨isM_null h.1 hx, isM_null h.2 hx⟩
  | false =>
    rw [if_neg (by decide)]
    exact ⟨isM_pck (.inl rfl) h.1 (isM_one (.inl rfl) hx), isM_pck (.inr rfl) h.2 (isM_one (.inr rfl) hx)⟩
/-- Valid values that compare as equal are equal. -/
theorem val_eq {typ : Int} {nu : Bool} (hT : okT typ = true) {a b : Vl} (ha : chkV typ nu a = 0) (hb : chkV typ nu b = 0) (na : a.nu = false) (nb : b.nu = false) (h : cmpV typ a b = 0) : a = b := by
  obtain ⟨an, a2, a3⟩ := a
  obtain ⟨bn, b2, b3⟩ := b
  simp only at na nb
  subst na nb
  unfold chkV at ha hb
  simp only at ha hb
  rw [chk_val hT] at ha hb
  unfold cmpV cmp at h
  simp only [Bool.false_eq_true, if_false] at h
  by_cases h3 : typ = 3
  · rw [if_pos h3, cmpS_zero] at h
    have e1 : a2 = 0 := by
      by_cases hn : a2 = 0
      · exact hn
      · rw [if_pos (.inl ⟨h3, hn⟩)] at ha; cases ha
    have e2 : b2 = 0 := by
      by_cases hn : b2 = 0
      · exact hn
      · rw [if_pos (.inl ⟨h3, hn⟩)] at hb; cases hb
    subst e1 e2 h; rfl
  · rw [if_neg h3, cmpI_zero] at h
    have e1 : a3 = ⟨#[]⟩ := by
      by_cases hn : a3.size = 0
      · exact s_empty hn
      · rw [if_pos (.inr ⟨h3, hn⟩)] at ha; cases ha
    have e2 : b3 = ⟨#[]⟩ := by
      by_cases hn : b3.size = 0
      · exact s_empty hn
      · rw [if_pos (.inr ⟨h3, hn⟩)] at hb; cases hb
    subst e1 e2 h; rfl
theorem isM_uniq {typ sg : Int} {nu : Bool} (hs : sg = -1 ∨ sg = 1) (hT : okT typ = true) {l l' : List Vl} (hv : ∀ x ∈ l, chkV typ nu x = 0) (hm : ∀ x, x ∈ l ↔ x ∈ l') {a b : Vl} (ha : isM typ sg l a) (hb : isM typ sg l' b) : a = b := by
  rcases ha with ⟨ha, rfl⟩ | ⟨a1, a2, a3⟩
  · rcases hb with ⟨_, rfl⟩ | ⟨b1, b2, _⟩
    · rfl
    · rw [ha b ((hm b).2 b1)] at b2; cases b2
  · rcases hb with ⟨hb, rfl⟩ | ⟨b1, b2, b3⟩
    · rw [hb a ((hm a).1 a1)] at a2; cases a2
    · have e1 := a3 b ((hm b).2 b1) b2
      have e2 := b3 a ((hm a).1 a1) a2
      have e3 := cmpV_neg typ a b
      obtain ⟨c1, c2⟩ := cmpV_bd typ a b
      exact val_eq hT (hv a a1) (hv b ((hm b).2 b1)) a2 b2 (by omega)
/-- The zone of two lists. -/
def joi (typ : Int) (a b : Zn) : Zn := ⟨a.rows + b.rows, a.nulls + b.nulls, pck typ (-1) a.mn b.mn, pck typ 1 a.mx b.mx⟩
theorem joi_app {typ : Int} {nu : Bool} (hT : okT typ = true) {x y : List Vl} (hx : ∀ v ∈ x, chkV typ nu v = 0) (hy : ∀ v ∈ y, chkV typ nu v = 0) : joi typ (zof typ x) (zof typ y) = zof typ (x ++ y) := by
  have hxy : ∀ v ∈ x ++ y, chkV typ nu v = 0 := fun v hv => by
    rcases List.mem_append.1 hv with h | h
    · exact hx v h
    · exact hy v h
  unfold joi zof
  simp only [stz_count, List.length_append, List.countP_append, Int.natCast_add]
  rw [isM_uniq (.inl rfl) hT hxy (fun _ => Iff.rfl) (isM_pck (.inl rfl) (isM_zof typ x).1 (isM_zof typ y).1) (isM_zof typ (x ++ y)).1,
    isM_uniq (.inr rfl) hT hxy (fun _ => Iff.rfl) (isM_pck (.inr rfl) (isM_zof typ x).2 (isM_zof typ y).2) (isM_zof typ (x ++ y)).2]
theorem joi_swap {typ : Int} {nu : Bool} (hT : okT typ = true) {x y : List Vl} (hx : ∀ v ∈ x, chkV typ nu v = 0) (hy : ∀ v ∈ y, chkV typ nu v = 0) : joi typ (zof typ y) (zof typ x) = zof typ (x ++ y) := by
  rw [joi_app hT hy hx]
  have hyx : ∀ v ∈ y ++ x, chkV typ nu v = 0 := fun v hv => by
    rcases List.mem_append.1 hv with h | h
    · exact hy v h
    · exact hx v h
  have hm : ∀ v, v ∈ y ++ x ↔ v ∈ x ++ y := fun v => by simp only [List.mem_append]; exact Or.comm
  unfold zof
  simp only [stz_count, List.length_append, List.countP_append, Int.natCast_add]
  rw [isM_uniq (.inl rfl) hT hyx hm (isM_zof typ (y ++ x)).1 (isM_zof typ (x ++ y)).1, isM_uniq (.inr rfl) hT hyx hm (isM_zof typ (y ++ x)).2 (isM_zof typ (x ++ y)).2,
    Int.add_comm (y.length : Int), Int.add_comm ((y.countP Vl.nu : Nat) : Int)]
theorem joi_nil (typ : Int) (l : List Vl) : joi typ (zof typ l) (zof typ []) = zof typ l := by
  unfold joi zof
  rw [stz_nil]
  simp only [List.length_nil, Int.natCast_zero, Int.add_zero]
  rw [pck_stay (stz_nrm typ l).1 rfl, pck_stay (stz_nrm typ l).2 rfl]
/-- Whether two values are the same. -/
def veq (a b : Vl) : Bool := a.nu == b.nu && (a.n == b.n && a.s.toList == b.s.toList)
theorem veq_rfl (a : Vl) : veq a a = true := by unfold veq; simp
theorem veq_iff {a b : Vl} : veq a b = true ↔ a = b := by
  constructor
  · intro h
    obtain ⟨a1, a2, a3⟩ := a
    obtain ⟨b1, b2, b3⟩ := b
    simp only [veq, Bool.and_eq_true, beq_iff_eq] at h
    obtain ⟨h1, h2, h3⟩ := h
    rw [h1, h2, toList_inj h3]
  · rintro rfl; exact veq_rfl a
/-- What Check finds of Min and Max. -/
def bdok (ty : Int) (nu : Bool) (p : Int) (a b : Vl) : Bool :=
  if p = 0 then veq a nulV && veq b nulV
  else if a.nu ∨ b.nu ∨ chkV ty nu a ≠ 0 ∨ chkV ty nu b ≠ 0 then false
  else decide (cmpV ty a b = 0 ∨ (cmpV ty a b < 0 ∧ 1 < p))
/-- What Check finds. -/
def zchk (ty : Int) (nu : Bool) (z : Zn) : Bool :=
  if okT ty = false ∨ z.nulls < 0 ∨ z.rows < z.nulls ∨ 4096 < z.rows ∨ (0 < z.nulls ∧ nu = false) then false else bdok ty nu (z.rows - z.nulls) z.mn z.mx
theorem zchk_bad {ty : Int} {nu : Bool} {z : Zn} (h : okT ty = false ∨ z.nulls < 0 ∨ z.rows < z.nulls ∨ 4096 < z.rows ∨ (0 < z.nulls ∧ nu = false)) : zchk ty nu z = false := if_pos h
theorem zchk_bds {ty : Int} {nu : Bool} {z : Zn} (h : ¬ (okT ty = false ∨ z.nulls < 0 ∨ z.rows < z.nulls ∨ 4096 < z.rows ∨ (0 < z.nulls ∧ nu = false))) : zchk ty nu z = bdok ty nu (z.rows - z.nulls) z.mn z.mx := if_neg h
/-- The zone of valid values is one. -/
theorem zchk_zof {ty : Int} {nu : Bool} (hT : okT ty = true) {l : List Vl} (hl : l.length ≤ 4096) (hv : ∀ x ∈ l, chkV ty nu x = 0) : zchk ty nu (zof ty l) = true := by
  have hle := stz_le ty l
  have hnul : ∀ x ∈ l, x.nu = true → nu = true := fun x hx h => by
    have h0 := hv x hx
    unfold chkV at h0
    rw [h, chk_nul hT] at h0
    by_cases hc : x.n ≠ 0 ∨ x.s.size ≠ 0
    · rw [if_pos hc] at h0; cases h0
    · rw [if_neg hc] at h0
      cases hn : nu with
      | true => rfl
      | false => rw [hn] at h0; cases h0
  have hno : ¬ (okT ty = false ∨ (zof ty l).nulls < 0 ∨ (zof ty l).rows < (zof ty l).nulls ∨ 4096 < (zof ty l).rows ∨ (0 < (zof ty l).nulls ∧ nu = false)) := by
    show ¬ (okT ty = false ∨ ((stz ty l).1 : Int) < 0 ∨ (l.length : Int) < (stz ty l).1 ∨ 4096 < (l.length : Int) ∨ (0 < ((stz ty l).1 : Int) ∧ nu = false))
    rintro (h | h | h | h | ⟨h, h'⟩)
    · rw [hT] at h; cases h
    · omega
    · omega
    · omega
    · rw [stz_count] at h
      have hp : 0 < l.countP Vl.nu := by omega
      obtain ⟨x, hx, hn⟩ := List.countP_pos_iff.1 hp
      rw [hnul x hx hn] at h'; cases h'
  rw [zchk_bds hno]
  show bdok ty nu ((l.length : Int) - (stz ty l).1) (stz ty l).2.1 (stz ty l).2.2 = true
  obtain ⟨hmn, hmx⟩ := isM_zof ty l
  have hc := stz_count ty l
  unfold bdok
  by_cases h0 : (l.length : Int) - (stz ty l).1 = 0
  · rw [if_pos h0]
    have hall : ∀ x ∈ l, x.nu = true := List.countP_eq_length.1 (by omega)
    have e1 : (stz ty l).2.1 = nulV := by
      rcases hmn with ⟨_, h⟩ | ⟨h, h', _⟩
      · exact h
      · rw [hall _ h] at h'; cases h'
    have e2 : (stz ty l).2.2 = nulV := by
      rcases hmx with ⟨_, h⟩ | ⟨h, h', _⟩
      · exact h
      · rw [hall _ h] at h'; cases h'
    rw [e1, e2, veq_rfl]; rfl
  · rw [if_neg h0]
    have hex : ¬ ∀ x ∈ l, x.nu = true := fun h => by
      have := List.countP_eq_length.2 h
      omega
    rcases hmn with ⟨h, _⟩ | ⟨a1, a2, a3⟩
    · exact absurd h hex
    rcases hmx with ⟨h, _⟩ | ⟨b1, b2, b3⟩
    · exact absurd h hex
    rw [if_neg (by rw [a2, b2, hv _ a1, hv _ b1]; rintro (h | h | h | h) <;> first | cases h | exact h rfl)]
    refine decide_eq_true ?_
    have e1 := a3 _ b1 b2
    have e2 := b3 _ a1 a2
    have e3 := cmpV_neg ty (stz ty l).2.1 (stz ty l).2.2
    obtain ⟨c1, c2⟩ := cmpV_bd ty (stz ty l).2.1 (stz ty l).2.2
    by_cases hq : cmpV ty (stz ty l).2.1 (stz ty l).2.2 = 0
    · exact .inl hq
    · refine .inr ⟨by omega, ?_⟩
      by_cases h1 : 1 < (l.length : Int) - (stz ty l).1
      · exact h1
      · exfalso
        have hone : l.countP (fun x => !x.nu) = 1 := by
          have := List.length_eq_countP_add_countP Vl.nu (l := l)
          have e : l.countP (fun a => ¬ a.nu = true) = l.countP (fun x => !x.nu) := by
            congr 1; funext a; cases a.nu <;> rfl
          omega
        rw [List.countP_eq_length_filter, List.length_eq_one_iff] at hone
        obtain ⟨q, hq1⟩ := hone
        have m1 : (stz ty l).2.1 ∈ l.filter (fun x => !x.nu) := List.mem_filter.2 ⟨a1, by rw [a2]; rfl⟩
        have m2 : (stz ty l).2.2 ∈ l.filter (fun x => !x.nu) := List.mem_filter.2 ⟨b1, by rw [b2]; rfl⟩
        rw [hq1, List.mem_singleton] at m1 m2
        rw [m1, m2] at hq
        have := cmpV_neg ty q q
        omega
end Go.ZN
