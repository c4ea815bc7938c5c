/- Words for regions that leave their order open: lists of valid values, their zones, new variables that hold a zone; what is written is read. -/
import Derived.Test.YthohmngckpjlbaaZoL1
import Derived.Test.YthohmngckpjlbaaZoW7
import Derived.Test.YthohmngckpjlbaaZoW8
import Derived.Test.YthohmngckpjlbaaConfl3
namespace Go.ZN
open Go.RowKit Go.VB Go.VS Go.VL Go.CK Go.VarM
/-- At most 39 values, each valid and within its type. -/
structure Good (ty : Int) (nu : Bool) (l : List Vl) : Prop where
  len : l.length ≤ 39
  ok : ∀ x ∈ l, chkV ty nu x = 0
  bd : ∀ x ∈ l, -9223372036854775808 ≤ x.n ∧ x.n ≤ 9223372036854775807
/-- Such a list that can be read. -/
def KvQ (ty : Int) (nu : Bool) : Go.Confl.Post := fun v w => ∃ l : List Vl, RdL w w.heap.size v l ∧ Good ty nu l
theorem KvQ.stable (ty : Int) (nu : Bool) : Go.Confl.Stable (KvQ ty nu) := fun _ _ _ ⟨l, h1, h2⟩ hb => ⟨l, h1.step hb, h2⟩
/-- The zone of such a list. -/
def ZfQ (ty : Int) (nu : Bool) : Go.Confl.Post := fun v _ => ∃ l : List Vl, Good ty nu l ∧ v = (zof ty l).val
theorem ZfQ.stable (ty : Int) (nu : Bool) : Go.Confl.Stable (ZfQ ty nu) := fun _ _ _ h _ => h
/-- A new variable behind the world W that holds the zone z. -/
def NewZ (W : World) (z : Zn) : Go.Confl.Post := fun v w => ∃ b, v = .pointer (some ⟨b, 0, none⟩) ∧ W.heap.size ≤ b ∧ VarZ w b z
theorem NewZ.stable (W : World) (z : Zn) : Go.Confl.Stable (NewZ W z) := fun _ _ _ ⟨b, h1, h2, h3⟩ hb => ⟨b, h1, h2, h3.step hb⟩
theorem dist_z {b c : Nat} (h : Value.pointer (some ⟨b, 0, none⟩) ≠ .pointer (some ⟨c, 0, none⟩)) : b ≠ c := fun e => h (by rw [e])
theorem VarZ.oput {w : World} {b c : Nat} {z z' : Zn} (h : VarZ w b z) (hc : b ≠ c) : VarZ (put8 w c z') b z :=
  (((((((h.other hc 0 _).other hc 1 _).other hc 2 _).other hc 3 _).other hc 4 _).other hc 5 _).other hc 6 _).other hc 7 _
/-- What is known of the zone of such a list. -/
structure ZGood (z : Zn) : Prop where
  r0 : 0 ≤ z.rows
  r1 : z.rows ≤ 39
  u0 : 0 ≤ z.nulls
  u1 : z.nulls ≤ 39
  mn : Nrm z.mn
  mx : Nrm z.mx
  mi : -9223372036854775808 ≤ z.mn.n ∧ z.mn.n ≤ 9223372036854775807
  xi : -9223372036854775808 ≤ z.mx.n ∧ z.mx.n ≤ 9223372036854775807
  ms : z.mn.s.size ≤ 64
  xs : z.mx.s.size ≤ 64
theorem chkV_short {typ : Int} {nu : Bool} {x : Vl} (hT : okT typ = true) (h : chkV typ nu x = 0) : x.s.size ≤ 64 := by
  obtain ⟨xn, n, s⟩ := x
  unfold chkV at h
  simp only at h ⊢
  cases xn with
  | true =>
    rw [chk_nul hT] at h
    by_cases hh : n ≠ 0 ∨ s.size ≠ 0
    · rw [if_pos hh] at h; cases h
    · omega
  | false =>
    rw [chk_val hT] at h
    by_cases hh : (typ = 3 ∧ n ≠ 0) ∨ (typ ≠ 3 ∧ s.size ≠ 0)
    · rw [if_pos hh] at h; cases h
    · rw [if_neg hh] at h
      by_cases h3 : typ = 3
      · subst h3
        have hp : okP 3 n s = decide (s.size ≤ 64) := rfl
        rw [hp] at h
        by_cases hs : s.size ≤ 64
        · exact hs
        · rw [decide_eq_false hs] at h; cases h
      · omega
theorem zof_good {ty : Int} {nu : Bool} (hT : okT ty = true) {l : List Vl} (h : Good ty nu l) : ZGood (zof ty l) := by
  have hl := h.len
  have hn := stz_le ty l
  have hm : ∀ m, (∀ sg, isM ty sg l m → (-9223372036854775808 ≤ m.n ∧ m.n ≤ 9223372036854775807) ∧ m.s.size ≤ 64) := fun m sg hm => by
    rcases hm with ⟨_, rfl⟩ | ⟨h1, _, _⟩
    · exact ⟨⟨by decide, by decide⟩, by decide⟩
    · exact ⟨h.bd m h1, chkV_short hT (h.ok m h1)⟩
  obtain ⟨i1, i2⟩ := isM_zof ty l
  obtain ⟨n1, n2⟩ := stz_nrm ty l
  exact ⟨Int.natCast_nonneg _, (by show (l.length : Int) ≤ 39; omega), Int.natCast_nonneg _, (by show ((stz ty l).1 : Int) ≤ 39; omega), n1, n2, (hm _ _ i1).1, (hm _ _ i2).1, (hm _ _ i1).2, (hm _ _ i2).2⟩
theorem wf_bd {n : Int} (h : -9223372036854775808 ≤ n ∧ n ≤ 9223372036854775807) : (Lit.int .i64 n).wf = true := WalkArith.wf_i64 ⟨h.1, h.2⟩
theorem putZ_len {z : Zn} (h : ZGood z) : (putZ z).length ≤ 190 := by
  have l1 := putL_len10 (n := z.rows.toNat) (by have := h.r1; omega)
  have l2 := putL_len10 (n := z.nulls.toNat) (by have := h.u1; omega)
  have l3 := putV_len (b := z.mn.nu) (s := z.mn.s) (wf_bd h.mi) (by have := h.ms; omega)
  have l4 := putV_len (b := z.mx.nu) (s := z.mx.s) (wf_bd h.xi) (by have := h.xs; omega)
  have h3 := h.ms
  have h4 := h.xs
  unfold putZ
  simp only [List.length_append]
  omega
theorem putZ_pos (z : Zn) : 1 ≤ (putZ z).length := by
  have h : 1 ≤ (putV z.mx.nu z.mx.n z.mx.s).length := by
    unfold putV
    split
    · exact Nat.le_refl _
    · simp only [List.length_append, List.length_cons, List.length_nil]; omega
  unfold putZ
  simp only [List.length_append]
  omega
theorem nrm_form {x : Vl} (h : Nrm x) : x.nu = true → x.n = 0 ∧ x.s = ⟨#[]⟩ := fun e => by rw [h e]; exact ⟨rfl, rfl⟩
end Go.ZN
namespace Go.Proofs.Ythohmngckpjlbaa
open Go.RowKit Go.VB Go.VL Go.VS Go.ZN Go.CK Go.VarM
theorem getC_at (a p r : List UInt8) (k : Nat) (hk : k ≤ 4096) (hp : p = putL k) : getC (str (a ++ (p ++ r))) (a.length : Nat) = (k, (a.length : Int) + p.length, 0) := by
  unfold getC
  rw [getR_at a p r k (by omega) hp, if_neg (fun h => h rfl), if_neg (by simp only; omega)]
/-- What is written is read. -/
theorem getZ_put (a r : List UInt8) {z : Zn} (h : ZGood z) : getZ (str (a ++ (putZ z ++ r))) (a.length : Nat) = (z, (a.length : Int) + (putZ z).length, 0) := by
  obtain ⟨rows, nulls, ⟨mb, mi, ms⟩, ⟨xb, xi, xs⟩⟩ := z
  have h1 := h.r0; have h2 := h.r1; have h3 := h.u0; have h4 := h.u1
  simp only at h1 h2 h3 h4
  obtain ⟨k, rfl⟩ := Int.eq_ofNat_of_zero_le h1
  obtain ⟨j, rfl⟩ := Int.eq_ofNat_of_zero_le h3
  have hp : putZ ⟨(k : Int), (j : Int), ⟨mb, mi, ms⟩, ⟨xb, xi, xs⟩⟩ = putL k ++ (putL j ++ (putV mb mi ms ++ putV xb xi xs)) := by
    unfold putZ; simp only [Int.toNat_natCast, List.append_assoc]
  rw [hp]
  have e1 := getC_at a (putL k) (putL j ++ (putV mb mi ms ++ putV xb xi xs) ++ r) k (by omega) rfl
  have e2 := getC_at (a ++ putL k) (putL j) (putV mb mi ms ++ putV xb xi xs ++ r) j (by omega) rfl
  have e3 := getV_put (a ++ putL k ++ putL j) (putV xb xi xs ++ r) mb mi ms (wf_bd h.mi) (by have := h.ms; simp only at this; omega) (nrm_form h.mn)
  have e4 := getV_put (a ++ putL k ++ putL j ++ putV mb mi ms) r xb xi xs (wf_bd h.xi) (by have := h.xs; simp only at this; omega) (nrm_form h.mx)
  have s1 : str (a ++ (putL k ++ (putL j ++ (putV mb mi ms ++ putV xb xi xs)) ++ r)) = str (a ++ (putL k ++ (putL j ++ (putV mb mi ms ++ putV xb xi xs) ++ r))) := by simp
  have s2 : str (a ++ (putL k ++ (putL j ++ (putV mb mi ms ++ putV xb xi xs) ++ r))) = str (a ++ putL k ++ (putL j ++ (putV mb mi ms ++ putV xb xi xs ++ r))) := by simp
  have s3 : str (a ++ (putL k ++ (putL j ++ (putV mb mi ms ++ putV xb xi xs) ++ r))) = str (a ++ putL k ++ putL j ++ (putV mb mi ms ++ (putV xb xi xs ++ r))) := by simp
  have s4 : str (a ++ (putL k ++ (putL j ++ (putV mb mi ms ++ putV xb xi xs) ++ r))) = str (a ++ putL k ++ putL j ++ putV mb mi ms ++ (putV xb xi xs ++ r)) := by simp
  rw [s1]
  rw [← s2] at e2
  rw [← s3] at e3
  rw [← s4] at e4
  have i1 : (a.length : Int) + (putL k).length = ((a ++ putL k).length : Nat) := by simp
  have i2 : ((a ++ putL k).length : Int) + (putL j).length = ((a ++ putL k ++ putL j).length : Nat) := by simp; omega
  have i3 : ((a ++ putL k ++ putL j).length : Int) + (putV mb mi ms).length = ((a ++ putL k ++ putL j ++ putV mb mi ms).length : Nat) := by simp; omega
  rw [i1] at e1
  rw [i2] at e2
  rw [i3] at e3
  rw [getZ_ok e1 e2 e3 e4]
  simp only [List.length_append, Int.natCast_add, Prod.mk.injEq, true_and, and_true]
  omega
end Go.Proofs.Ythohmngckpjlbaa
