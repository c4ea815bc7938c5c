/- The walks over package dict: joining two ascending lists, sorting. -/
import Derived.Test.YtikokmafofbofaaDctM
namespace Go.Proofs.Ytikokmafofbofaa
open Go.RowKit Go.VB Go.VarM Go.BP Go.RL Go.DI
theorem Try.infStr : (Try.prog.info? 9).map (fun i => (i.zero, i.size, i.bytes)) = some (some (.string ⟨#[]⟩), 1, 16) := by kernel_rfl
theorem less_at {x y : ByteArray} {b : Bool} (h : lts x y = b) : Go.Op.bytesLess x.toList y.toList = b := h
set_option maxRecDepth 100000 in
set_option maxHeartbeats 4000000 in
theorem merge_any (va vb : Value) (a b : List ByteArray) (B : Nat) (w : World) (ha : RdV Value.string w B va a) (hb : RdV Value.string w B vb b) (hB : B ≤ w.heap.size) (hA : Asc a) (hC : Asc b) (hl : a.length + b.length ≤ 8796093022208) :
    Calls Try.prog 37 #[va, vb] w (RetV Value.string 9 (srt (a ++ b)) w) := by
  obtain ⟨A1, c1, rfl, h11, h12, ha'⟩ := ha
  have ha : RdV Value.string w B (.slice A1 a.length c1) a := ⟨A1, c1, rfl, h11, h12, ha'⟩
  obtain ⟨A2, c2, rfl, h21, h22, hb'⟩ := hb
  have hb : RdV Value.string w B (.slice A2 b.length c2) b := ⟨A2, c2, rfl, h21, h22, hb'⟩
  clear ha' hb'
  unfold maxLen at h12 h22
  have HI := Lib.hid (MI.start hA hC)
  have hmk := run_makeV0 (P := Try.prog) (t := 22) (z := .string ⟨#[]⟩) rfl Try.underlying22 Try.infStr (a.length + b.length) (by omega) (by unfold maxLen; omega) w
  rw [Int.natCast_add] at hmk
  have HA := Lib.hid ha; have HC := Lib.hid hb
  clear ha hb hA hC
  generalize hT : srt (a ++ b) = T
  have HT := Lib.hid hT; clear hT
  go_enter Try.func37, Try.ntmps37
  go_wp2
  go_loopw [0, 1, 5] (fun va vb vm wr => ∃ a' b' m, RdV Value.string w B va a' ∧ RdV Value.string w B vb b' ∧ MI a b m a' b' ∧ OwnV Value.string 9 wr w.heap.size vm m ∧ Below w.heap.size w wr) (fun va vb _ _ => lenS va + lenS vb)
  case atStart => exact ⟨a, b, [], HA.out, HC.out, HI.out, OwnV.made0 _ _ _ _ _ _ (Nat.le_refl _) (by unfold maxLen; omega), (Below.refl _ _).alloc (Nat.le_refl _) _⟩
  case round =>
    obtain ⟨a', b', m, hra, hrb, hmi, hown, hbel⟩ := hrel
    clear HI HA HC hmk
    have h7 := hmi.2.2.2.2.2.2
    have hfin := fun he => (MI.done hmi he).trans HT.out
    obtain ⟨Aa, ca, n, rfl, hna, ha1, ha2⟩ := hra.bds
    obtain ⟨Ab, cb, k, rfl, hnb, hb1, hb2⟩ := hrb.bds
    obtain ⟨Am, cm, _, rfl, rfl, hm1, hm2⟩ := hown.read.bds
    have hszr := hbel.size
    cases a' with
    | nil =>
      have hn0 : n = 0 := hna
      subst hn0
      have he := hfin (.inl rfl)
      have hlm : m.length + ([] : List ByteArray).length + b'.length ≤ 8796093022208 := by simp at h7 ⊢; omega
      have HE := Lib.hid he; have HRA := Lib.hid (hra.below (hbel.mono hB)); have HRB := Lib.hid (hrb.below (hbel.mono hB)); have HLM := Lib.hid hlm
      clear he hra hrb h7 hmi hfin hna hnb hlm
      go_wp2_with (first
        | (at_builtin; refine wpl_appV (f := Value.string) (fun _ => rfl) (.string ⟨#[]⟩) rfl rfl _ _ 22 rfl w.heap.size 9 16 Try.underlying22 Try.infStr _ m rfl hown B _ ([] : List ByteArray) rfl HRA.out (by have := HLM.out; unfold maxLen; omega) (by have := HLM.out; omega) hszr ?_; intro v' w' hown' hb' _; have hrb2 := HRB.out.below (hb'.mono hB); have hsz2 := hb'.size; clear hown)
        | (at_builtin; refine wpl_appV (f := Value.string) (fun _ => rfl) (.string ⟨#[]⟩) rfl rfl _ _ 22 rfl w.heap.size 9 16 Try.underlying22 Try.infStr v' (m ++ ([] : List ByteArray)) rfl hown' B _ b' rfl hrb2 (by have := HLM.out; rw [List.length_append]; unfold maxLen; omega) (by have := HLM.out; rw [List.length_append]; omega) (Nat.le_trans hszr hsz2) ?_; intro v2 w2 hown2 hb2 _))
      go_ret
      rw [HE.out] at hown2
      exact RetV.mk rfl hown2 ((hbel.trans hb').trans hb2)
    | cons x r =>
      cases b' with
      | nil =>
        have hk0 : k = 0 := hnb
        subst hk0
        have hn1 : 1 ≤ n := by rw [hna]; simp
        have he := hfin (.inr rfl)
        have hlm : m.length + (x :: r).length + ([] : List ByteArray).length ≤ 8796093022208 := by simp at h7 ⊢; omega
        have HE := Lib.hid he; have HRA := Lib.hid (hra.below (hbel.mono hB)); have HRB := Lib.hid (hrb.below (hbel.mono hB)); have HLM := Lib.hid hlm
        clear he hra hrb h7 hmi hfin hna hnb hlm
        go_wp2_with (first
          | (at_builtin; refine wpl_appV (f := Value.string) (fun _ => rfl) (.string ⟨#[]⟩) rfl rfl _ _ 22 rfl w.heap.size 9 16 Try.underlying22 Try.infStr _ m rfl hown B _ (x :: r) rfl HRA.out (by have := HLM.out; unfold maxLen; omega) (by have := HLM.out; omega) hszr ?_; intro v' w' hown' hb' _; have hrb2 := HRB.out.below (hb'.mono hB); have hsz2 := hb'.size; clear hown)
          | (at_builtin; refine wpl_appV (f := Value.string) (fun _ => rfl) (.string ⟨#[]⟩) rfl rfl _ _ 22 rfl w.heap.size 9 16 Try.underlying22 Try.infStr v' (m ++ (x :: r)) rfl hown' B _ ([] : List ByteArray) rfl hrb2 (by have := HLM.out; rw [List.length_append]; unfold maxLen; omega) (by have := HLM.out; rw [List.length_append]; omega) (Nat.le_trans hszr hsz2) ?_; intro v2 w2 hown2 hb2 _))
        go_ret
        rw [HE.out] at hown2
        exact RetV.mk rfl hown2 ((hbel.trans hb').trans hb2)
      | cons y t =>
        obtain ⟨ad, rfl, hab, hgx⟩ := (hra.below (hbel.mono hB)).at (i := 0) (x := x) rfl
        obtain ⟨bd, rfl, hbb, hgy⟩ := (hrb.below (hbel.mono hB)).at (i := 0) (x := y) rfl
        rw [addr_zero] at hgx hgy
        have hn1 : 1 ≤ n := by rw [hna]; simp
        have hk1 : 1 ≤ k := by rw [hnb]; simp
        have hn1' : (1 : Int) ≤ (n : Int) := by omega
        have hk1' : (1 : Int) ≤ (k : Int) := by omega
        have hra1 := hra.tail1
        have hrb1 := hrb.tail1
        have hml : m.length + 1 ≤ 8796093022208 := by simp at h7; omega
        have HL := Lib.hid (fun h => hmi.left (x := x) (y := y) h)
        have HR := Lib.hid (fun h => hmi.right (x := x) (y := y) h)
        have HM := Lib.hid hmi
        clear hmi h7 hfin hna hnb
        have HRA := Lib.hid hra; have HRB := Lib.hid hrb; have HRA1 := Lib.hid hra1; have HRB1 := Lib.hid hrb1; have HML := Lib.hid hml; have HBEL := Lib.hid hbel; have HOWN := Lib.hid hown
        clear hra hrb hra1 hrb1 hml hbel hown
        rcases lts_tri x y with hxy | hxy | hxy
        · have hd := less_at hxy
          have HXY := Lib.hid hxy; clear hxy
          go_wp2_with fail
          go_region
          go_wp2_with fail
          go_region_law (refine step_appV (f := Value.string) (fun _ => rfl) (.string ⟨#[]⟩) rfl rfl (.tmp 27) (.tmp 31) 22 rfl w.heap.size 9 16 Try.underlying22 Try.infStr (.slice Am m.length cm) m rfl (HOWN.out.drew.drew.alloc _) (wr.heap.size + 1) (.slice (some ⟨wr.heap.size, 0, none⟩) 1 1) x rfl (RdV.one _ _ _ _ _ (by decide) (by decide)) (by have := HML.out; unfold maxLen; omega) (by have := HML.out; omega) (by simp; omega) ?_; intro v' w' hown' hb' _)
          all_goals go_wp2_with fail
          all_goals go_roundw
          all_goals first
            | (simp only [lenS]; omega)
            | exact ⟨_, _, _, ⟨r, (by first | exact HRA.out.tailA (by assumption) | exact HRA.out.tailB (by assumption)), y :: t, HRB.out, m ++ [x], HL.out HXY.out, hown', ((HBEL.out.alloc hszr _).drew.drew).trans hb'⟩, rfl, rfl, rfl⟩
        · subst hxy
          have hd := less_at (lts_irr x)
          have hd2 := text_eq (s := x) (t := x) rfl
          go_wp2_with fail
          go_region
          go_wp2_with fail
          go_region
          go_wp2_with fail
          all_goals go_region_law (refine step_appV (f := Value.string) (fun _ => rfl) (.string ⟨#[]⟩) rfl rfl (.tmp 44) (.tmp 48) 22 rfl w.heap.size 9 16 Try.underlying22 Try.infStr (.slice Am m.length cm) m rfl (HOWN.out.drew.drew.drew.alloc _) (wr.heap.size + 1) (.slice (some ⟨wr.heap.size, 0, none⟩) 1 1) x rfl (RdV.one _ _ _ _ _ (by decide) (by decide)) (by have := HML.out; unfold maxLen; omega) (by have := HML.out; omega) (by simp; omega) ?_; intro v' w' hown' hb' _)
          all_goals go_wp2_with fail
          all_goals go_roundw
          all_goals first
            | (simp only [lenS]; omega)
            | exact ⟨_, _, _, ⟨r, (by first | exact HRA.out.tailA (by assumption) | exact HRA.out.tailB (by assumption)), t, (by first | exact HRB.out.tailA (by assumption) | exact HRB.out.tailB (by assumption)), m ++ [x], HM.out.both, hown', ((HBEL.out.alloc hszr _).drew.drew.drew).trans hb'⟩, rfl, rfl, rfl⟩
        · have hd := less_at (lts_asym hxy)
          have hd2 := text_ne (s := x) (t := y) (fun e => lts_ne hxy e.symm)
          have HXY := Lib.hid hxy; clear hxy
          go_wp2_with fail
          go_region
          go_wp2_with fail
          go_region
          go_wp2_with fail
          go_region_law (refine step_appV (f := Value.string) (fun _ => rfl) (.string ⟨#[]⟩) rfl rfl (.tmp 44) (.tmp 48) 22 rfl w.heap.size 9 16 Try.underlying22 Try.infStr (.slice Am m.length cm) m rfl (HOWN.out.drew.drew.drew.alloc _) (wr.heap.size + 1) (.slice (some ⟨wr.heap.size, 0, none⟩) 1 1) y rfl (RdV.one _ _ _ _ _ (by decide) (by decide)) (by have := HML.out; unfold maxLen; omega) (by have := HML.out; omega) (by simp; omega) ?_; intro v' w' hown' hb' _)
          all_goals go_wp2_with fail
          all_goals go_roundw
          all_goals first
            | (simp only [lenS]; omega)
            | exact ⟨_, _, _, ⟨x :: r, HRA.out, t, (by first | exact HRB.out.tailA (by assumption) | exact HRB.out.tailB (by assumption)), m ++ [y], HR.out HXY.out, hown', ((HBEL.out.alloc hszr _).drew.drew.drew).trans hb'⟩, rfl, rfl, rfl⟩
end Go.Proofs.Ytikokmafofbofaa
