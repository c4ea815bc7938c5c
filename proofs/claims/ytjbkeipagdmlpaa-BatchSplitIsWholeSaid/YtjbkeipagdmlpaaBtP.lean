/- keep's schemas are valid (parted from SchL, under its own names). -/
import Derived.Test.YtjbkeipagdmlpaaSchG
import Derived.Test.YtjbkeipagdmlpaaBt5b
import Derived.Test.YtjbkeipagdmlpaaBt8b
namespace Go.SC
open Go.RowKit Go.VB Go.VL
theorem kcname (n : Nat) (h : n < 4) : nameS (str [UInt8.ofNat (97 + n)]) = true := by
  match n, h with
  | 0, _ => decide +kernel
  | 1, _ => decide +kernel
  | 2, _ => decide +kernel
  | 3, _ => decide +kernel
theorem kcname_ne {n m : Nat} (hn : n < 4) (hm : m < 4) (h : str [UInt8.ofNat (97 + n)] = str [UInt8.ofNat (97 + m)]) : n = m := by
  have h1 := str_inj h
  simp only [List.cons.injEq, and_true] at h1
  have h2 := congrArg UInt8.toNat h1
  rw [UInt8.toNat_ofNat', UInt8.toNat_ofNat'] at h2
  omega
/-- keep's schemas are valid. -/
theorem kokc {cs : List Col} {key : Int} (h : KOK cs key) : chkS cs key = 0 := by
  obtain ⟨h1, h4, hk, k0, k1⟩ := h
  rw [chkS_end (by omega) (by omega), if_neg (by omega)]
  intro i hi
  obtain ⟨a, b, c, d, e⟩ := hk i hi
  have hn : nameS (cs.getD i col0).nm = true := by rw [a]; exact kcname _ (by omega)
  rw [chkCol_scale hn ?_ b, if_neg (by omega)]
  rintro ⟨j, hj, he⟩
  obtain ⟨a', _⟩ := hk j (by omega)
  rw [a, a'] at he
  have := kcname_ne (by omega) (by omega) he
  omega
end Go.SC

namespace Go.RS
open Go.RowKit Go.VB Go.VS Go.SC Go.CK Go.ST Go.MK
def colA : Col := ⟨⟨#[97]⟩, 1, 0, false⟩
theorem colA_chk : chkS [colA] 0 = 0 := by
  refine kokc ⟨by decide, by decide, fun i hi => ?_, by decide, by decide⟩
  obtain rfl : i = 0 := by simp at hi; omega
  exact ⟨rfl, rfl, by decide, by decide, fun _ => rfl⟩
def r1 : Rc := ⟨1, [⟨false, 5, ⟨#[]⟩⟩]⟩
def r2 : Rc := ⟨2, [⟨false, 3, ⟨#[]⟩⟩]⟩
theorem val_r1 : okRec [colA] r1 = true := by decide +kernel
theorem val_r2 : okRec [colA] r2 = true := by decide +kernel
theorem sort_12 : sortR [colA] 0 [r1, r2] = [r2, r1] := by
  rw [sortR_val (valR_ok colA_chk fun k r h => by
    match k, h with
    | 0, h => cases h; exact val_r1
    | 1, h => cases h; exact val_r2)]
  rfl
theorem srtd_21 : srtdB [colA] 0 [r2, r1] = true := by
  rw [srtdB_val (valR_ok colA_chk fun k r h => by
    match k, h with
    | 0, h => cases h; exact val_r2
    | 1, h => cases h; exact val_r1)]
  refine ascR_ok fun i a b h1 h2 => ?_
  match i, h1, h2 with
  | 0, h1, h2 => cases h1; cases h2; decide +kernel
/-- A schema of one column. -/
def OneP (w : World) : Ending → World → Prop := fun en w' => ∃ v, en = .returned (.agg #[v, .int .i64 0]) ∧ RdC w' w'.heap.size v [colA] ∧ Below w.heap.size w w'
end Go.RS
namespace Go.Proofs.Ytjbkeipagdmlpaa
open Go.RowKit Go.VB Go.VS Go.SC Go.CK Go.ST Go.MK Go.RS
set_option linter.constructorNameAsVariable false
set_option maxRecDepth 100000 in
theorem one_any (w : World) : Calls Try.prog 41 #[] w (OneP w) := by
  have hb : Below w.heap.size w ((w.alloc (.cells #[.slice (some ⟨w.heap.size + 1, 0, none⟩) 1 1, .int .i64 0] 28)).alloc (.cells #[.string ⟨#[97]⟩, .int .i64 1, .int .i64 0, .bool false] 66)) := ((Below.refl _ _).alloc (Nat.le_refl _) _).alloc (by simp) _
  have hown : OwnC 66 ((w.alloc (.cells #[.slice (some ⟨w.heap.size + 1, 0, none⟩) 1 1, .int .i64 0] 28)).alloc (.cells #[.string ⟨#[97]⟩, .int .i64 1, .int .i64 0, .bool false] 66)) (w.heap.size + 1) (.slice (some ⟨w.heap.size + 1, 0, none⟩) 1 1) [colA] := by
    have h := World.ownsRow_lit (base := w.heap.size + 1) (e := 66) (size := 4) (w.alloc (.cells #[.slice (some ⟨w.heap.size + 1, 0, none⟩) 1 1, .int .i64 0] 28)) #[.string ⟨#[97]⟩, .int .i64 1, .int .i64 0, .bool false] 1 (by simp) (by decide) rfl
    rw [show (w.alloc (.cells #[.slice (some ⟨w.heap.size + 1, 0, none⟩) 1 1, .int .i64 0] 28)).heap.size = w.heap.size + 1 by simp] at h
    exact h
  have HO := Lib.hid hown; have HB := Lib.hid hb
  clear hb hown
  go_enter Try.func41, Try.ntmps41
  go_wp2
  refine bodyPost_ret (v := .agg #[.slice (some ⟨w.heap.size + 1, 0, none⟩) 1 1, .int .i64 0]) (by simp [results, Try.results41, go_sem]) rfl ?_
  exact ⟨_, rfl, OwnC.read HO.out, HB.out⟩
set_option maxRecDepth 100000 in
set_option maxHeartbeats 1000000 in
theorem awake15_any (W : World) : Calls Try.prog 16 #[] W (RetB (.bool true) W) := by
  have HON := fun w => Lib.hid (one_any w)
  go_enter Try.func16, Try.ntmps16
  go_wp2_with fail
  (with_reducible refine (HON _).out.mono ?_); rintro e w1 ⟨v, rfl, hv, hb1⟩
  have hba := (Below.refl w1.heap.size w1).alloc (Nat.le_refl _) (.cells #[.bool false, .int .i64 5, .string ⟨#[]⟩] 32)
  have hra := RdL.lit w1 [⟨false, 5, ⟨#[]⟩⟩] 1 32 (Nat.le_refl 1) (by decide)
  have hsa : (w1.alloc (.cells #[.bool false, .int .i64 5, .string ⟨#[]⟩] 32)).heap.size = w1.heap.size + 1 := by simp
  have HX1 := Lib.hid (show ∃ X, w1.alloc (.cells #[.bool false, .int .i64 5, .string ⟨#[]⟩] 32) = X from ⟨_, rfl⟩)
  obtain ⟨X1, hX1⟩ := HX1.out
  have hra' : RdL X1 (w1.heap.size + 1) (.slice (some ⟨w1.heap.size, 0, none⟩) 1 1) [⟨false, 5, ⟨#[]⟩⟩] := by rw [← hX1]; exact hra
  rw [hX1] at hba hsa
  have hbb := (Below.refl X1.heap.size X1).alloc (Nat.le_refl _) (.cells #[.bool false, .int .i64 3, .string ⟨#[]⟩] 32)
  have hrb := RdL.lit X1 [⟨false, 3, ⟨#[]⟩⟩] 1 32 (Nat.le_refl 1) (by decide)
  have hsb : (X1.alloc (.cells #[.bool false, .int .i64 3, .string ⟨#[]⟩] 32)).heap.size = X1.heap.size + 1 := by simp
  have HX2 := Lib.hid (show ∃ X, X1.alloc (.cells #[.bool false, .int .i64 3, .string ⟨#[]⟩] 32) = X from ⟨_, rfl⟩)
  obtain ⟨X2, hX2⟩ := HX2.out
  have hrb' : RdL X2 (X1.heap.size + 1) (.slice (some ⟨X1.heap.size, 0, none⟩) 1 1) [⟨false, 3, ⟨#[]⟩⟩] := by rw [← hX2]; exact hrb
  rw [hX2] at hbb hsb
  have hbc := (Below.refl X2.heap.size X2).alloc (Nat.le_refl _) (.cells #[.int .i64 1, .slice (some ⟨w1.heap.size, 0, none⟩) 1 1, .int .i64 2, .slice (some ⟨w1.heap.size + 1, 0, none⟩) 1 1] 41)
  have hrc := RdK.lit (L := recL) X2 [⟨1, ⟨some ⟨w1.heap.size, 0, none⟩, 1, 1⟩⟩, ⟨2, ⟨some ⟨w1.heap.size + 1, 0, none⟩, 1, 1⟩⟩] 2 41 (Nat.le_refl 2) (by decide)
  have hsc : (X2.alloc (.cells #[.int .i64 1, .slice (some ⟨w1.heap.size, 0, none⟩) 1 1, .int .i64 2, .slice (some ⟨w1.heap.size + 1, 0, none⟩) 1 1] 41)).heap.size = X2.heap.size + 1 := by simp
  have HX3 := Lib.hid (show ∃ X, X2.alloc (.cells #[.int .i64 1, .slice (some ⟨w1.heap.size, 0, none⟩) 1 1, .int .i64 2, .slice (some ⟨w1.heap.size + 1, 0, none⟩) 1 1] 41) = X from ⟨_, rfl⟩)
  obtain ⟨X3, hX3⟩ := HX3.out
  have hrc' : RdK recL X3 (X2.heap.size + 1) (.slice (some ⟨X2.heap.size, 0, none⟩) 2 2) [⟨1, ⟨some ⟨w1.heap.size, 0, none⟩, 1, 1⟩⟩, ⟨2, ⟨some ⟨w1.heap.size + 1, 0, none⟩, 1, 1⟩⟩] := by rw [← hX3]; exact hrc
  rw [hX3] at hbc hsc
  have h12 : Below w1.heap.size w1 X2 := hba.trans (hbb.mono (by omega))
  have h13 : Below w1.heap.size w1 X3 := h12.trans (hbc.mono (by omega))
  have hdeep : DeepR X3 X3.heap.size [⟨1, ⟨some ⟨w1.heap.size, 0, none⟩, 1, 1⟩⟩, ⟨2, ⟨some ⟨w1.heap.size + 1, 0, none⟩, 1, 1⟩⟩] [r1, r2] := by
    have e1 : RdL X3 X3.heap.size (.slice (some ⟨w1.heap.size, 0, none⟩) 1 1) [⟨false, 5, ⟨#[]⟩⟩] := ((hra'.below (hbb.mono (by omega))).below (hbc.mono (by omega))).more (by omega)
    have e2 : RdL X3 X3.heap.size (.slice (some ⟨w1.heap.size + 1, 0, none⟩) 1 1) [⟨false, 3, ⟨#[]⟩⟩] := by
      rw [← hsa]; exact (hrb'.below (hbc.mono (by omega))).more (by omega)
    exact (DeepR.one (p := ⟨1, ⟨some ⟨w1.heap.size, 0, none⟩, 1, 1⟩⟩) (r := r1) rfl e1).app (DeepR.one (p := ⟨2, ⟨some ⟨w1.heap.size + 1, 0, none⟩, 1, 1⟩⟩) (r := r2) rfl e2)
  have hrd : RdR X3 X3.heap.size (.slice (some ⟨w1.heap.size + 2, 0, none⟩) 2 2) [r1, r2] := ⟨_, by
    have h := hrc'.more (B' := X3.heap.size) (by omega)
    rw [show X2.heap.size = w1.heap.size + 2 by omega] at h
    exact h, hdeep⟩
  have hso := bsort_any [colA] v 0 _ [r1, r2] X3 (hv.step h13) hrd (by decide)
  rw [sort_12] at hso
  have HSO := Lib.hid hso
  have HXX := Lib.hid (show (((w1.alloc (.cells #[.bool false, .int .i64 5, .string ⟨#[]⟩] 32)).alloc (.cells #[.bool false, .int .i64 3, .string ⟨#[]⟩] 32)).alloc (.cells #[.int .i64 1, .slice (some ⟨w1.heap.size, 0, none⟩) 1 1, .int .i64 2, .slice (some ⟨w1.heap.size + 1, 0, none⟩) 1 1] 41)) = X3 by rw [hX1, hX2, hX3])
  have HB3 := Lib.hid (bel_trans hb1 h13)
  clear hba hra hsa hX1 hra' hbb hrb hsb hX2 hrb' hbc hrc hsc hX3 hrc' h12 h13 hdeep hrd hso hv hb1 HX1 HX2 HX3
  go_wp2_with fail
  rw [HXX.out]
  (with_reducible refine HSO.out.mono ?_); rintro e w2 ⟨u, ps, rfl, ho, hd, hb2⟩
  have hps2 : ps.length = 2 := hd.1
  rcases OwnK.forms ho with ⟨-, h0⟩ | ⟨g, c, rfl, hrow⟩
  · subst h0; simp at hps2
  obtain ⟨p, p', rfl⟩ : ∃ p p', ps = [p, p'] := by
    match ps, hps2 with
    | [p, p'], _ => exact ⟨p, p', rfl⟩
  have hp1 : p.seq = 2 := (hd.2 0 p r2 rfl rfl).1
  have hp2 : p'.seq = 1 := (hd.2 1 p' r1 rfl rfl).1
  have k0 : w2.cell? ⟨g, 0, none⟩ = some (.int .i64 2) := by
    have h := RowK.at hrow (i := 0) (x := p) rfl 0 (u := .int .i64 p.seq) rfl
    rw [hp1] at h; exact h
  have k1 : w2.cell? ⟨g, 2, none⟩ = some (.int .i64 1) := by
    have h := RowK.at hrow (i := 1) (x := p') rfl 0 (u := .int .i64 p'.seq) rfl
    rw [hp2] at h; exact h
  have HRD := Lib.hid (Go.RS.OwnK.rdR (v := .slice (some ⟨g, 0, none⟩) 2 c) hrow hd)
  have HB2 := Lib.hid (bel_trans HB3.out hb2)
  clear ho hd hb2 hps2 hp1 hp2 hrow HSO
  go_wp2_with (first
    | ((with_reducible refine (HON _).out.mono ?_); rintro e w3 ⟨v3, rfl, hv3, hb3⟩; have hsd := bsorted_any [colA] v3 0 _ [r2, r1] w3 hv3 (HRD.out.step hb3); rw [srtd_21] at hsd; have HSD := Lib.hid hsd; have HB4 := Lib.hid (bel_trans HB2.out hb3); clear hsd hv3 hb3)
    | ((with_reducible refine HSD.out.mono ?_); rintro e w4 ⟨rfl, hb4⟩))
  go_ret
  exact RetB.mk rfl (bel_trans HB4.out hb4)
end Go.Proofs.Ytjbkeipagdmlpaa

namespace Go.RS
open Go.RowKit Go.VB Go.VS Go.SC Go.CK Go.ST Go.MK
theorem kok_12 {cs : List Col} {key : Int} (h : KOK cs key) : cs.length ≤ 12 := by have := h.2.1; omega
theorem kok_ty {cs : List Col} {key : Int} (h : KOK cs key) : ∀ i, i < cs.length → Go.VL.okT (cs.getD i col0).ty = true := fun i hi => (h.2.2.1 i hi).2.1
theorem kok_val {cs : List Col} {key : Int} {l : List Rc} (h : KOK cs key) (hl : ∀ r ∈ l, okRec cs r = true) : valR cs key l = true := valR_ok (kokc h) fun _ r hr => hl r (List.mem_of_getElem? hr)
theorem sortR_len {cs : List Col} {key : Int} {l : List Rc} : (sortR cs key l).length ≤ l.length := by
  unfold sortR
  split
  · rw [srtR_len]; exact Nat.le_refl _
  · simp
theorem sortR_mem {cs : List Col} {key : Int} {l : List Rc} {r : Rc} (h : r ∈ sortR cs key l) : r ∈ l := by
  unfold sortR at h
  split at h
  · exact srtR_mem h
  · simp at h
theorem cmpR_seq {ty : Int} {a b : Vl} {s t : Int} (h : cmpR ty a s b t = 0) : s = t := by
  unfold cmpR at h
  by_cases h0 : Go.VL.cmp ty a.nu a.n a.s b.nu b.n b.s ≠ 0
  · rw [if_pos h0] at h; exact absurd h h0
  · rw [if_neg h0] at h
    unfold Go.VL.cmpI at h
    by_cases h1 : s < t
    · rw [if_pos h1] at h; omega
    · rw [if_neg h1] at h
      by_cases h2 : t < s
      · rw [if_pos h2] at h; omega
      · omega
/-- Sorted records with different numbers are sorted, and stay as they are. -/
theorem recs_sorted {cs : List Col} {key : Int} {l : List Rc} (h : KOK cs key) (hl : ∀ r ∈ l, okRec cs r = true) (hp : l.Pairwise fun a b => a.seq < b.seq) : srtdB cs key (sortR cs key l) = true ∧ sortR cs key (sortR cs key l) = sortR cs key l := by
  have hv := kok_val h hl
  have hv2 : valR cs key (sortR cs key l) = true := kok_val h fun r hr => hl r (sortR_mem hr)
  rw [srtdB_val hv2, sortR_val hv2, sortR_val hv]
  generalize keyT cs key = ty
  generalize key.toNat = k
  have hs := srtL_spec (recLe_ord ty k) l
  have hpw : (srtR ty k l).Pairwise (fun a b => recLe ty k a b = true) := hs.srt
  refine ⟨ascR_ok fun i a b ha hb => ?_, (srtR_is (IsS.self hpw)).symm⟩
  have hi : i + 1 < (srtR ty k l).length := (List.getElem?_eq_some_iff.1 hb).1
  have hab : recLe ty k a b = true := by
    have := List.pairwise_iff_getElem.1 hpw i (i + 1) (by omega) hi (by omega)
    rw [List.getElem?_eq_getElem (by omega)] at ha
    rw [List.getElem?_eq_getElem hi] at hb
    cases ha; cases hb; exact this
  cases hba : recLe ty k b a with
  | false => exact recLe_neg.1 hba
  | true =>
    exfalso
    have h1 : cmpRec ty k a b ≤ 0 := of_decide_eq_true hab
    have h2 : cmpRec ty k b a ≤ 0 := of_decide_eq_true hba
    have h3 := cmpR_neg ty (keyV k a) a.seq (keyV k b) b.seq
    have h4 : cmpR ty (keyV k a) a.seq (keyV k b) b.seq = 0 := by unfold cmpRec at h1 h2; omega
    have hseq := cmpR_seq h4
    have e1 : eqv (recLe ty k) a a = true := eqv_self (recLe_ord ty k) a
    have e2 : eqv (recLe ty k) a b = true := by unfold eqv; rw [hab, hba]; rfl
    have hsub : [a, b].Sublist (srtR ty k l) := by
      have hd : (srtR ty k l).drop i = a :: b :: (srtR ty k l).drop (i + 2) := by
        have hi0 : i < (srtR ty k l).length := by omega
        rw [List.getElem?_eq_getElem hi0] at ha
        rw [List.getElem?_eq_getElem hi] at hb
        have ea := Option.some.inj ha
        have eb := Option.some.inj hb
        rw [List.drop_eq_getElem_cons hi0, List.drop_eq_getElem_cons hi, ea, eb]
      have : [a, b].Sublist ((srtR ty k l).drop i) := by
        rw [hd]
        exact ((List.nil_sublist _).cons_cons b).cons_cons a
      exact this.trans (List.drop_sublist i _)
    have hf := hsub.filter (eqv (recLe ty k) a)
    have hfe : (srtR ty k l).filter (eqv (recLe ty k) a) = l.filter (eqv (recLe ty k) a) := hs.same a
    rw [hfe, List.filter_cons, if_pos e1, List.filter_cons, if_pos e2] at hf
    have h5 := hp.sublist (hf.trans List.filter_sublist)
    have := (List.pairwise_cons.1 h5).1 b (List.mem_cons_self ..)
    omega
/-- A record list of the call's own has the length of its list. -/
theorem ownRs_len {eR eV : TypeId} {w : World} {b n c : Nat} {A : Option Addr} {l : List Rc} (h : OwnRs eR eV w b (.slice A n c) l) : n = l.length := (h.read).len.1
/-- A row of the call's own that is not empty. -/
theorem own_some {e : TypeId} {w : World} {b : Nat} {v : Value} {l : List Rs} (h : OwnK recL e w b v l) (hl : l ≠ []) : ∃ g c, v = .slice (some ⟨g, 0, none⟩) l.length c ∧ RowK recL e w b g c l ∧ l.length ≤ c ∧ c ≤ 9223372036854775807 := by
  rcases h.forms with ⟨_, rfl⟩ | ⟨g, c, rfl, hr⟩
  · exact absurd rfl hl
  · obtain ⟨A, c', n, he, h1, h2, h3⟩ := (OwnK.read h).bds
    cases he
    exact ⟨g, c, rfl, hr, h2, h3⟩
theorem ownV_some {α : Type} {f : α → Value} {e : TypeId} {w : World} {b : Nat} {v : Value} {l : List α} (h : OwnV f e w b v l) (hl : l ≠ []) : ∃ g c, v = .slice (some ⟨g, 0, none⟩) l.length c ∧ RowV f e w b g c l ∧ l.length ≤ c := by
  rcases h.forms with ⟨_, rfl⟩ | ⟨g, c, rfl, hr⟩
  · exact absurd rfl hl
  · obtain ⟨A, c', he, h1, _⟩ := hr.read
    cases he
    exact ⟨g, _, rfl, hr, h1⟩
theorem ownL_some {e : TypeId} {w : World} {b : Nat} {v : Value} {l : List Vl} (h : OwnL e w b v l) (hl : l ≠ []) : ∃ g c, v = .slice (some ⟨g, 0, none⟩) l.length c ∧ RowL e w b g c l := by
  rcases (ownL_K h).forms with ⟨_, rfl⟩ | ⟨g, c, rfl, hr⟩
  · exact absurd rfl hl
  · exact ⟨g, c, rfl, hr⟩
/-- A store into a row of other elements. -/
theorem own_setApart {w : World} {b1 b2 s1 s2 n1 n2 g c n : Nat} {e1 e2 : TypeId} {v1 : Value} {xs1 xs2 : List Value} (h1 : w.ownsRow b1 e1 s1 v1 n1 xs1) (h2 : w.ownsRow b2 e2 s2 (.slice (some ⟨g, 0, none⟩) n c) n2 xs2) (he : e1 ≠ e2) (i : Nat) (x : Value) : (w.setCell ⟨g, i, none⟩ x).ownsRow b1 e1 s1 v1 n1 xs1 := by
  refine ownsRow_setCell_other h1 (a := ⟨g, i, none⟩) (fun e => ?_) x
  rcases own_apart h1 h2 he with h | h
  · rw [h] at e; cases e
  · exact h (by rw [e]; rfl)
/-- A new variable of four cells (a rank). -/
def NewK (W : World) : Go.Confl.Post := fun v w => ∃ b, v = .pointer (some ⟨b, 0, none⟩) ∧ W.heap.size ≤ b ∧ Var4F w b (.bool false) (.int .i64 0) (.string ⟨#[]⟩) (.int .i64 0)
theorem NewK.stable (W : World) : Go.Confl.Stable (NewK W) := fun _ _ _ ⟨b, h1, h2, h3⟩ hb => ⟨b, h1, h2, h3.step hb⟩
theorem dist_v {b c : Nat} (h : Value.pointer (some ⟨b, 0, none⟩) ≠ .pointer (some ⟨c, 0, none⟩)) : b ≠ c := fun e => h (by rw [e])
theorem var4_oth {w : World} {b c i : Nat} {x y z u v : Value} (h : Var4F w b x y z u) (hc : b ≠ c) : Var4F (w.setCell ⟨c, i, none⟩ v) b x y z u := by
  have hk : ∀ j : Nat, (⟨c, i, none⟩ : Addr) ≠ ⟨b, j, none⟩ := fun j e => hc (congrArg Addr.block e).symm
  constructor
  · rw [World.cell?_setCell_other _ _ _ _ (hk _)]; exact h.c0
  · rw [World.cell?_setCell_other _ _ _ _ (hk _)]; exact h.c1
  · rw [World.cell?_setCell_other _ _ _ _ (hk _)]; exact h.c2
  · rw [World.cell?_setCell_other _ _ _ _ (hk _)]; exact h.c3
  all_goals
    rw [World.frozen?_setCell]
    first | exact h.f0 | exact h.f1 | exact h.f2 | exact h.f3
theorem var4_oth4 {w : World} {b c : Nat} {x y z u : Value} (h : Var4F w b x y z u) (hc : b ≠ c) (x' y' z' u' : Value) : Var4F ((((w.setCell ⟨c, 0, none⟩ x').setCell ⟨c, 1, none⟩ y').setCell ⟨c, 2, none⟩ z').setCell ⟨c, 3, none⟩ u') b x y z u := var4_oth (var4_oth (var4_oth (var4_oth h hc) hc) hc) hc
/-- Lists of records that can be read, as a post that stands. -/
def RdRQ (l : List Rc) : Go.Confl.Post := fun v w => RdR w w.heap.size v l
theorem RdRQ.stable (l : List Rc) : Go.Confl.Stable (RdRQ l) := fun _ _ _ h hb => RdR.step h hb
/-- Each part has a record, at most n, all but the last one n. -/
theorem prt_parts {α : Type} {n : Nat} (hn : 0 < n) : ∀ (m : Nat) (l : List α), l.length ≤ m → ∀ (j : Nat) (q : List α), (prt n l)[j]? = some q → 1 ≤ q.length ∧ q.length ≤ n ∧ (j + 1 < (prt n l).length → q.length = n)
  | m, l, hm, j, q, hq => by
    by_cases hl : l = []
    · subst hl; rw [prt_nil] at hq; simp at hq
    · have h1 := List.length_pos_iff.2 hl
      match m, hm with
      | 0, hm => omega
      | m + 1, hm =>
        rw [prt_cons hn hl] at hq ⊢
        match j, hq with
        | 0, hq =>
          simp at hq; subst hq
          rw [List.length_take]
          refine ⟨by omega, by omega, fun h => ?_⟩
          rw [List.length_cons] at h
          by_cases hle : l.length ≤ n
          · rw [List.drop_eq_nil_of_le hle, prt_nil] at h; simp at h
          · omega
        | j + 1, hq =>
          have := prt_parts hn m (l.drop n) (by rw [List.length_drop]; omega) j q (by simpa using hq)
          refine ⟨this.1, this.2.1, fun h => this.2.2 ?_⟩
          rw [List.length_cons] at h; omega
end Go.RS
