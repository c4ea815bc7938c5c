/- The walks over the reference: the place of a text, BuildDict. -/
import Derived.Test.YtikokmafofbofaaDctW3
namespace Go.VB
open Go.RowKit
theorem RdV.cutA {α : Type} {f : α → Value} {w : World} {B c n : Nat} {ad : Addr} {l : List α} (h : RdV f w B (.slice (some ad) n c) l) {i : Nat} (hc : c = i) : RdV f w B (.slice (some ad) (n - i) 0) (l.drop i) := by
  obtain ⟨A', c', hv, h1, h2, _⟩ := id h
  cases hv
  have : l.drop i = [] := List.drop_eq_nil_of_le (by omega)
  rw [this]
  exact ⟨_, _, by rw [show l.length - i = 0 from by omega]; rfl, by simp, by omega, fun _ _ hi => by simp at hi⟩
theorem RdV.cutB {α : Type} {f : α → Value} {w : World} {B c n : Nat} {ad : Addr} {l : List α} (h : RdV f w B (.slice (some ad) n c) l) {i : Nat} (hi : i ≤ l.length) : RdV f w B (.slice (some (ad.add i)) (n - i) (c - i)) (l.drop i) := by
  obtain ⟨A', c', hv, h1, h2, _⟩ := id h
  cases hv
  exact h.tail i hi
theorem RdV.cast {α : Type} {f : α → Value} {w : World} {B : Nat} {v : Value} {l m : List α} (h : RdV f w B v l) (he : l = m) : RdV f w B v m := by subst he; exact h
theorem RdV.cutC {α : Type} {f : α → Value} {w : World} {B c n : Nat} {ad : Addr} {l : List α} (h : RdV f w B (.slice (some ad) n c) l) {i : Nat} (hi : i ≤ l.length) : RdV f w B (.slice (if c = i then some ad else some (ad.add i)) (n - i) (c - i)) (l.drop i) := by
  by_cases hc : c = i
  · rw [if_pos hc, show c - i = 0 by omega]; exact h.cutA hc
  · rw [if_neg hc]; exact h.cutB hi
end Go.VB
namespace Go.Proofs.Ytikokmafofbofaa
open Go.RowKit Go.VB Go.VarM Go.BP Go.RL Go.DI
set_option maxRecDepth 100000 in
set_option maxHeartbeats 1000000 in
theorem place_any (v : Value) (l : List ByteArray) (s : ByteArray) (B : Nat) (w : World) (hr : RdV Value.string w B v l) :
    Calls Try.prog 27 #[v, .string s] w (Ret (.int .i64 (plc s l : Nat)) w) := by
  obtain ⟨A, c, _, rfl, rfl, hc1, hc2⟩ := hr.bds
  have hpl := plc_le s l
  have HST := Lib.hid (fun i x => plc_step (s := s) (l := l) (i := i) (x := x)); have HSP := Lib.hid (fun i x => plc_stop (s := s) (l := l) (i := i) (x := x)); have HE := Lib.hid (fun i => plc_end (s := s) (l := l) (i := i))
  generalize plc s l = P at *
  have HR := Lib.hid hr; clear hr
  go_enter Try.func27, Try.ntmps27
  go_wp2
  go_loopw [5] (fun i wr => ∃ j : Nat, i = .int .i64 j ∧ j ≤ P ∧ wr = w) (fun i _ => P - (intOf i).toNat)
  case atStart => exact ⟨0, rfl, Nat.zero_le _, rfl⟩
  case round =>
    obtain ⟨j, rfl, hj, rfl⟩ := hrel
    by_cases hlt : j < l.length
    · have hx : l[j]? = some l[j] := List.getElem?_eq_getElem hlt
      obtain ⟨ad, rfl, _, hgx⟩ := HR.out.at hx
      have H1 := Lib.hid (HST.out j l[j] hj hx); have H2 := Lib.hid (HSP.out j l[j] hj hx)
      clear hx
      generalize l[j] = x at *
      cases hxs : lts x s with
      | true =>
        have hd := less_at hxs
        have hP := H1.out hxs
        have HP := Lib.hid hP
        clear hxs hP
        go_wp2_with fail
        go_roundw
        case rel => exact ⟨j + 1, by go_num, HP.out, trivial⟩
        case measure => have := HP.out; simp [intOf] <;> omega
      | false =>
        have hd := less_at hxs
        have hP := H2.out hxs
        have HP := Lib.hid hP
        clear hxs hP
        go_wp2_with fail
        go_ret
        exact Ret.mk (by rw [HP.out]; rfl)
    · have hP := Lib.hid (HE.out j hj (by omega))
      go_wp2_with fail
      go_ret
      exact Ret.mk (by rw [hP.out]; rfl)
set_option maxRecDepth 100000 in
set_option maxHeartbeats 4000000 in
theorem rbuild_any (v : Value) (l : List ByteArray) (B : Nat) (w : World) (hr : RdV Value.string w B v l) (hB : B ≤ w.heap.size) (hl : l.length ≤ 8796093022208) :
    Calls Try.prog 15 #[v] w (Ret2 Value.string nI (srt l) (idx l) w) := by
  obtain ⟨A, c, _, rfl, rfl, hc1, hc2⟩ := hr.bds
  have HR := Lib.hid hr; clear hr
  go_enter Try.func15, Try.ntmps15
  go_wp2
  go_loopw [4, 14] (fun v i wr => ∃ (j : Nat) (ws : List ByteArray), i = .int .i64 j ∧ j ≤ l.length ∧ OwnV Value.string 9 wr w.heap.size v ws ∧ ws = srt (l.take j) ∧ (ws = [] → v = .slice none 0 0) ∧ Below w.heap.size w wr) (fun _ i _ => l.length - (intOf i).toNat)
  case atStart => exact ⟨0, [], rfl, Nat.zero_le _, OwnV.nil _ _ _ _, rfl, fun _ => rfl, Below.refl _ _⟩
  case round =>
    obtain ⟨j, ws, rfl, hj, hown, hws, hnil, hbel⟩ := hrel
    have hwl : ws.length ≤ j := by rw [hws]; exact (srt_facts l j).2.2
    have hszr := hbel.size
    by_cases hlt : j < l.length
    · have hx : l[j]? = some l[j] := List.getElem?_eq_getElem hlt
      obtain ⟨ad, rfl, _, hgx⟩ := (HR.out.below (hbel.mono hB)).at hx
      have hst := srt_take hx
      rw [← hws] at hst
      clear hx
      generalize l[j] = s at hgx hst
      have HPL := Lib.hid (fun v h => place_any v ws s wr.heap.size wr h)
      have hpl := plc_le s ws
      have hin := fun h => ins_new (s := s) (l := ws) h
      have hio := fun h => ins_old (s := s) (l := ws) h
      have hne : ins s ws ≠ [] := fun e => by have : s ∈ ins s ws := mem_ins.2 (.inl rfl); rw [e] at this; simp at this
      have HNE := Lib.hid hne
      clear hne
      rcases Nat.eq_zero_or_pos ws.length with h0 | h0
      · have hw0 : ws = [] := List.eq_nil_of_length_eq_zero h0
        obtain rfl := hnil hw0
        subst hw0
        clear hnil h0 hpl hwl hio
        have e1 : ins s [] = [] ++ [s] ++ [] := by unfold ins; simp [plc]
        have HST := Lib.hid (hst.trans e1)
        have HP0 := Lib.hid (show Calls Try.prog 27 #[.slice none 0 0, .string s] wr (Ret (.int .i64 0) wr) from HPL.out _ hown.read)
        clear hst e1 hin HPL hws
        have hn1 := RdV.nil Value.string wr wr.heap.size
        have hTD : ([] : List ByteArray).length + 1 + ([] : List ByteArray).length ≤ 8796093022208 := by decide
        go_wp2_with (first
          | (go_at_call 27; (with_reducible refine HP0.out.mono ?_); rintro e w' ⟨rfl, rfl⟩)
          | (at_builtin; refine wpl_appV (f := Value.string) (fun _ => rfl) (.string ⟨#[]⟩) rfl rfl _ _ 22 rfl wr.heap.size 9 16 Try.underlying22 Try.infStr (.slice none 0 0) ([]) rfl (OwnV.nil _ _ _ _) wr.heap.size (.slice none 0 0) (([] : List ByteArray)) rfl (hn1) (by unfold maxLen; simp only [List.length_nil]; omega) (by simp only [List.length_nil]; omega) (Nat.le_refl _) ?_; intro v1 w1 hown1 hb1 _; have hz1 := hb1.size; rw [List.nil_append] at hown1)
          | (at_builtin; refine wpl_appV (f := Value.string) (fun _ => rfl) (.string ⟨#[]⟩) rfl rfl _ _ 22 rfl wr.heap.size 9 16 Try.underlying22 Try.infStr v1 (([] : List ByteArray)) rfl (hown1.alloc _) (w1.heap.size + 1) _ ([s]) rfl (RdV.one _ _ _ _ _ (by decide) (by decide)) (by unfold maxLen; simp only [List.length_cons, List.length_nil]; omega) (by simp only [List.length_cons, List.length_nil]; omega) (by simp; omega) ?_; intro v2 w2 hown2 hb2 _; have hz2 := hb2.size; have hb12 := (hb1.alloc hz1 _).trans hb2; clear hown1)
          | (at_builtin; refine wpl_appV (f := Value.string) (fun _ => rfl) (.string ⟨#[]⟩) rfl rfl _ _ 22 rfl wr.heap.size 9 16 Try.underlying22 Try.infStr v2 (([] : List ByteArray) ++ [s]) rfl (hown2) wr.heap.size (.slice none 0 0) (([] : List ByteArray)) rfl (RdV.nil _ _ _) (by unfold maxLen; rw [List.length_append]; simp only [List.length_cons, List.length_nil]; omega) (by rw [List.length_append]; simp only [List.length_cons, List.length_nil]; omega) (hb12.size) ?_; intro v3 w3 hown3 hb3 _; have hb13 := hb12.trans hb3; clear hown2 hb12 hb1 hb2 hb3))
        all_goals go_roundw
        all_goals first
          | (simp [intOf]; omega)
          | exact ⟨j + 1, _, by go_num, hlt, hown3.lower hszr, HST.out.symm, fun e => by simp at e, hbel.trans (hb13.mono hszr)⟩
      · obtain ⟨A2, cc, _, rfl, rfl, hq1, hq2⟩ := hown.read.bds
        obtain ⟨ad2, rfl, -, -⟩ := hown.read.at (List.getElem?_eq_getElem h0)
        have hrd := hown.read
        have HP0 := Lib.hid (HPL.out _ hrd)
        generalize hp : plc s ws = p at *
        have htk : (ws.take p).length = p := by rw [List.length_take]; omega
        have hrA : RdV Value.string wr wr.heap.size (.slice (some ad2) p cc) (ws.take p) := by
          have := hrd.head (m := ws.take p) (by rw [htk]) (by omega)
          rwa [htk] at this
        have hrCA := fun (h : cc = p) => hrd.cutA (i := p) h
        have hrCB := hrd.cutB (i := p) hpl
        have hTD : (ws.take p).length + 1 + (ws.drop p).length ≤ 8796093022208 := by rw [htk, List.length_drop]; omega
        have hspl : (ws.take p) ++ s :: (ws.drop p) = (ws.take p) ++ [s] ++ (ws.drop p) := by rw [List.append_assoc]; rfl
        by_cases hnew : ws[p]? = some s
        · have hio' := hio hnew
          obtain ⟨hpl2, _⟩ := List.getElem?_eq_some_iff.1 hnew
          obtain ⟨bd, hbd, _, hgy⟩ := hrd.at hnew
          cases hbd
          rw [hio'] at hst
          have HST := Lib.hid hst; have HNIL := Lib.hid hnil; have HOWN := Lib.hid hown
          have hd : ((p : Int) == (ws.length : Int)) = false := by simp; omega
          have hd2 := text_eq (s := s) (t := s) rfl
          have HW0 := Lib.hid (show ws ≠ [] from fun e => by rw [e] at h0; simp at h0)
          clear hst hin hio hio' hnew hnil hws HPL hp htk hrA hrCA hrCB hTD hspl hrd hown h0
          go_wp2_with (first
            | (go_at_call 27; (with_reducible refine HP0.out.mono ?_); rintro e w' ⟨rfl, rfl⟩))
          go_roundw
          case rel => exact ⟨j + 1, ws, by go_num, hlt, HOWN.out, HST.out.symm, fun e => absurd e HW0.out, hbel⟩
          case measure => simp [intOf] <;> omega
        · have hin' := hin hnew
          rw [hin', hspl] at hst
          have HST := Lib.hid hst
          rcases Nat.lt_or_ge p ws.length with hpl2 | hpl2
          · have hy : ws[p]? = some ws[p] := List.getElem?_eq_getElem hpl2
            obtain ⟨bd, hbd, _, hgy⟩ := hrd.at hy
            cases hbd
            rw [hy] at hnew
            have hd : ((p : Int) == (ws.length : Int)) = false := by simp; omega
            clear hy
            generalize ws[p] = y at hgy hnew
            have hd2 := text_ne (s := y) (t := s) (fun e => hnew (by rw [e]))
            clear hst hin hin' hio hnew hnil hws HPL hp htk hspl hrd h0
            generalize ws.take p = T at *
            generalize ws.drop p = D at *
            go_wp2_with (first
              | (go_at_call 27; (with_reducible refine HP0.out.mono ?_); rintro e w' ⟨rfl, rfl⟩)
              | (at_builtin; refine wpl_appV (f := Value.string) (fun _ => rfl) (.string ⟨#[]⟩) rfl rfl _ _ 22 rfl wr.heap.size 9 16 Try.underlying22 Try.infStr (.slice none 0 0) ([]) rfl (OwnV.nil _ _ _ _) wr.heap.size (.slice (some ad2) p cc) (T) rfl (hrA) (by unfold maxLen; simp only [List.length_nil]; omega) (by simp only [List.length_nil]; omega) (Nat.le_refl _) ?_; intro v1 w1 hown1 hb1 _; have hz1 := hb1.size; rw [List.nil_append] at hown1)
              | (at_builtin; refine wpl_appV (f := Value.string) (fun _ => rfl) (.string ⟨#[]⟩) rfl rfl _ _ 22 rfl wr.heap.size 9 16 Try.underlying22 Try.infStr v1 (T) rfl (hown1.alloc _) (w1.heap.size + 1) _ ([s]) rfl (RdV.one _ _ _ _ _ (by decide) (by decide)) (by unfold maxLen; simp only [List.length_cons, List.length_nil]; omega) (by simp only [List.length_cons, List.length_nil]; omega) (by simp; omega) ?_; intro v2 w2 hown2 hb2 _; have hz2 := hb2.size; have hb12 := (hb1.alloc hz1 _).trans hb2; clear hown1)
              | (at_builtin; refine wpl_appV (f := Value.string) (fun _ => rfl) (.string ⟨#[]⟩) rfl rfl _ _ 22 rfl wr.heap.size 9 16 Try.underlying22 Try.infStr v2 (T ++ [s]) rfl (hown2) wr.heap.size _ (D) rfl (by first | exact (hrCA (by assumption)).below hb12 | exact hrCB.below hb12) (by unfold maxLen; rw [List.length_append]; simp only [List.length_cons, List.length_nil]; omega) (by rw [List.length_append]; simp only [List.length_cons, List.length_nil]; omega) (hb12.size) ?_; intro v3 w3 hown3 hb3 _; have hb13 := hb12.trans hb3; clear hown2 hb12 hb1 hb2 hb3))
            all_goals go_roundw
            all_goals first
              | (simp [intOf]; omega)
              | exact ⟨j + 1, _, by go_num, hlt, hown3.lower hszr, HST.out.symm, fun e => by simp at e, hbel.trans (hb13.mono hszr)⟩
          · have hd : ((p : Int) == (ws.length : Int)) = true := by simp; omega
            have hrC0 : RdV Value.string wr wr.heap.size (.slice (if cc = p then some ad2 else some (ad2.add p)) 0 (cc - p)) (ws.drop p) := by have := hrd.cutC hpl; rwa [show ws.length - p = 0 by omega] at this
            clear hst hin hin' hio hnew hnil hws HPL hp htk hspl hrd h0
            generalize ws.take p = T at *
            generalize ws.drop p = D at *
            go_wp2_with (first
              | (go_at_call 27; (with_reducible refine HP0.out.mono ?_); rintro e w' ⟨rfl, rfl⟩)
              | (at_builtin; refine wpl_appV (f := Value.string) (fun _ => rfl) (.string ⟨#[]⟩) rfl rfl _ _ 22 rfl wr.heap.size 9 16 Try.underlying22 Try.infStr (.slice none 0 0) ([]) rfl (OwnV.nil _ _ _ _) wr.heap.size (.slice (some ad2) p cc) (T) rfl (hrA) (by unfold maxLen; simp only [List.length_nil]; omega) (by simp only [List.length_nil]; omega) (Nat.le_refl _) ?_; intro v1 w1 hown1 hb1 _; have hz1 := hb1.size; rw [List.nil_append] at hown1)
              | (at_builtin; refine wpl_appV (f := Value.string) (fun _ => rfl) (.string ⟨#[]⟩) rfl rfl _ _ 22 rfl wr.heap.size 9 16 Try.underlying22 Try.infStr v1 (T) rfl (hown1.alloc _) (w1.heap.size + 1) _ ([s]) rfl (RdV.one _ _ _ _ _ (by decide) (by decide)) (by unfold maxLen; simp only [List.length_cons, List.length_nil]; omega) (by simp only [List.length_cons, List.length_nil]; omega) (by simp; omega) ?_; intro v2 w2 hown2 hb2 _; have hz2 := hb2.size; have hb12 := (hb1.alloc hz1 _).trans hb2; clear hown1)
              | (at_builtin; refine wpl_appV (f := Value.string) (fun _ => rfl) (.string ⟨#[]⟩) rfl rfl _ _ 22 rfl wr.heap.size 9 16 Try.underlying22 Try.infStr v2 (T ++ [s]) rfl (hown2) wr.heap.size _ (D) rfl (by first | exact (hrCA (by assumption)).below hb12 | exact hrCB.below hb12 | exact hrC0.below hb12) (by unfold maxLen; rw [List.length_append]; simp only [List.length_cons, List.length_nil]; omega) (by rw [List.length_append]; simp only [List.length_cons, List.length_nil]; omega) (hb12.size) ?_; intro v3 w3 hown3 hb3 _; have hb13 := hb12.trans hb3; clear hown2 hb12 hb1 hb2 hb3))
            all_goals go_roundw
            all_goals first
              | (simp [intOf]; omega)
              | exact ⟨j + 1, _, by go_num, hlt, hown3.lower hszr, HST.out.symm, fun e => by simp at e, hbel.trans (hb13.mono hszr)⟩
    · have hjn : j = l.length := by omega
      have hwS : ws = srt l := by rw [hws, hjn, List.take_length]
      have hIx := fun j s (h : l[j]? = some s) => idx_at h
      have hIl := idx_len l
      obtain ⟨A2, cc, _, rfl, rfl, hq1, hq2⟩ := hown.read.bds
      have hrd := hown.read
      rw [← hwS] at hIx
      have HWS := Lib.hid hwS
      clear hjn hws hnil hown hwS
      generalize idx l = I at *
      have hIS : ∀ j s, l[j]? = some s → I[j]? = some (plc s ws) := hIx
      have HIX := Lib.hid hIS; have HIL := Lib.hid hIl; have HRD := Lib.hid hrd
      clear hIx hIS hIl hrd
      go_wp2_with fail
      go_loopw [9, 49] (fun v i wk => ∃ (j : Nat), i = .int .i64 j ∧ j ≤ l.length ∧ OwnV nI 3 wk wr.heap.size v (I.take j) ∧ Below wr.heap.size wr wk) (fun _ i _ => l.length - (intOf i).toNat)
      case atStart => exact ⟨0, rfl, Nat.zero_le _, OwnV.nil _ _ _ _, Below.refl _ _⟩
      case round =>
        obtain ⟨j, rfl, hj, hown, hbel2⟩ := hrel
        by_cases hjl : j < l.length
        · have hx : l[j]? = some l[j] := List.getElem?_eq_getElem hjl
          have hix := HIX.out j _ hx
          obtain ⟨ad, rfl, _, hgx⟩ := (HR.out.below ((hbel.trans (hbel2.mono hszr)).mono hB)).at hx
          clear hx
          generalize l[j] = x at hgx hix
          have HPL := Lib.hid (place_any _ ws x _ wr (HRD.out.below hbel2))
          have hts := Go.DI.take_snoc hix
          have HTS := Lib.hid hts
          have htl : (I.take j).length ≤ j := by rw [List.length_take]; omega
          have hszq := hbel2.size
          clear hix hts
          generalize plc x ws = P at *
          go_wp2_with (first
            | (go_at_call 27; (with_reducible refine HPL.out.mono ?_); rintro e w' ⟨rfl, rfl⟩)
            | (at_builtin; refine wpl_appV (f := nI) (fun _ => rfl) (.int .i64 0) rfl rfl _ _ 23 rfl _ 3 8 Try.underlying23 Try.infInt _ (I.take j) rfl (hown.alloc _) (wr.heap.size + 1) _ [P] rfl (RdV.one nI _ P _ _ (by decide) (by decide)) (by unfold maxLen; simp only [List.length_cons, List.length_nil]; omega) (by simp only [List.length_cons, List.length_nil]; omega) (by simp; omega) ?_; intro v' w' hown' hb' _))
          go_roundw
          case rel => exact ⟨j + 1, by go_num, hjl, by rw [HTS.out]; exact hown', (hbel2.alloc hszq _).trans hb'⟩
          case measure => simp [intOf] <;> omega
        · have hjn : I.take j = I := List.take_of_length_le (by have := HIL.out; omega)
          have HJ := Lib.hid hjn
          have hb := hbel.trans (hbel2.mono hszr)
          have hr2 := (HRD.out.below hbel2).more hbel2.size
          have hc2 := hown.read
          rw [hjn] at hc2
          have HR2 := Lib.hid hr2; have HC2 := Lib.hid hc2
          obtain ⟨A5, k5, n5, rfl, _, _, _⟩ := hown.read.bds
          clear hjn hr2 hc2 hown
          go_wp2_with fail
          go_ret2
          exact Ret2.mk rfl (HR2.out.cast HWS.out) HC2.out hb
end Go.Proofs.Ytikokmafofbofaa
