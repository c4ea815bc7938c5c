/- What is written is read again: schemas. -/
import Derived.Test.YtfkdenlpailmeaaDoorSchF
import Derived.Test.YtfkdenlpailmeaaDoorSchC3
namespace Go.SC
open Go.RowKit Go.VB Go.VL
theorem lns_nl : ∀ {t : List UInt8}, (10 : UInt8) ∉ t → lns t = ([], t)
  | [], _ => rfl
  | b :: r, h => by
    have hb : ¬ b = 10 := fun e => h (by rw [e]; exact List.mem_cons_self ..)
    have ih := lns_nl (t := r) (fun hm => h (List.mem_cons_of_mem _ hm))
    unfold lns
    rw [if_neg hb, ih]
theorem lns_line : ∀ {t : List UInt8} (r : List UInt8), (10 : UInt8) ∉ t → lns (t ++ 10 :: r) = (t :: (lns r).1, (lns r).2)
  | [], r, _ => by
    show lns (10 :: r) = _
    rw [lns, if_pos rfl]
  | b :: t, r, h => by
    have hb : ¬ b = 10 := fun e => h (by rw [e]; exact List.mem_cons_self ..)
    have ih := lns_line (t := t) r (fun hm => h (List.mem_cons_of_mem _ hm))
    show lns (b :: (t ++ 10 :: r)) = _
    rw [lns, if_neg hb, ih]
theorem lns_unl : ∀ {ts : List (List UInt8)}, (∀ t ∈ ts, (10 : UInt8) ∉ t) → lns (unl ts []) = (ts, [])
  | [], _ => rfl
  | t :: ts, h => by
    rw [unl_cons, lns_line _ (h t (by simp)), lns_unl (fun x hx => h x (List.mem_cons_of_mem _ hx))]
theorem nm_bytes {s : ByteArray} (h : nameS s = true) : ∀ b ∈ s.data.toList, b ≠ 10 ∧ b ≠ 32 := by
  intro b hb
  obtain ⟨i, hi, rfl⟩ := List.getElem_of_mem hb
  have hi2 : i < s.size := by rw [← size_list]; exact hi
  have h1 := (nameS_ok h).2 i hi2
  have h2 : bN s i = (s.data.toList[i]).toNat := by
    unfold bN
    rw [List.getD_eq_getElem?_getD, List.getElem?_eq_getElem hi]; rfl
  rw [h2] at h1
  constructor
  · intro e; rw [e] at h1
    unfold nmN lowN digN at h1
    simp at h1
  · intro e; rw [e] at h1
    unfold nmN lowN digN at h1
    simp at h1
theorem CV.okC {c : Col} (h : CV c) : okC c := by
  have h1 := h.nm_size.1
  refine ⟨⟨fun e => ?_, fun hm => (nm_bytes h.name _ hm).2 rfl⟩, h.ty, fun _ => ⟨h.sc0, by have := h.sc18; omega⟩, h.sc5⟩
  have := size_list c.nm
  rw [e] at this
  simp at this; omega
theorem CV.isCol {c : Col} (h : CV c) : isCol (colL c) c := ⟨h.okC, rfl⟩
theorem CV.not_key {c : Col} (h : CV c) : ¬ ∃ n, isKey (colL c) n := by
  rintro ⟨n, hk⟩
  have h1 : c.nm.data.toList ++ 32 :: (typL c.ty c.sc ++ nulL c.nu) = keyL ++ 32 :: n := hk.2
  have h2 := (cut_inj h.okC.1.2 (by decide) h1).1
  have h3 := (nameS_ok h.name).1.2.2
  exact h3 (ByteArray.ext (Array.toList_inj.1 h2))
theorem CV.no_nl {c : Col} (h : CV c) : (10 : UInt8) ∉ colL c := by
  have h1 : (10 : UInt8) ∉ c.nm.data.toList := fun hm => (nm_bytes h.name _ hm).1 rfl
  have h2 : (10 : UInt8) ∉ twL c.ty := by
    rcases okT_five h.ty with e | e | e | e | e <;> (rw [e]; decide)
  have h3 : (10 : UInt8) ∉ scL c.sc.toNat := fun hm => by
    have := scL_dig (n := c.sc.toNat) (by have := h.sc18; omega) _ hm
    exact absurd this (by decide)
  have h4 : (10 : UInt8) ∉ nulL c.nu := by unfold nulL; split <;> decide
  unfold colL typL
  intro hm
  rcases List.mem_append.1 hm with hm | hm
  · exact h1 hm
  · rcases List.mem_cons.1 hm with e | hm
    · exact absurd e (by decide)
    · rcases List.mem_append.1 hm with hm | hm
      · rcases List.mem_append.1 hm with hm | hm
        · exact h2 hm
        · split at hm
          · rcases List.mem_cons.1 hm with e | hm
            · exact absurd e (by decide)
            · exact h3 hm
          · cases hm
      · exact h4 hm
theorem fmtL_unl (cs : List Col) (key : Int) : fmtL cs key = unl (cs.map colL ++ [keyL ++ 32 :: (cs.getD key.toNat col0).nm.data.toList]) [] := by
  unfold fmtL txC unl
  simp [List.flatMap_append, List.flatMap_map]
theorem plr_cols {n kl : List UInt8} (hk : isKey kl n) : ∀ (cs acc : List Col) (k : Nat), (∀ c ∈ cs, CV c) → plr [] (cs.map colL ++ [kl]) acc k = .ok (acc ++ cs) n (k + cs.length + 1)
  | [], acc, k, _ => by
    rw [List.map_nil, List.nil_append, plr_key hk rfl, List.append_nil]; rfl
  | c :: cs, acc, k, h => by
    have hc := h c (by simp)
    rw [List.map_cons, List.cons_append, plr_col hc.not_key hc.isCol, plr_cols hk cs (acc ++ [c]) (k + 1) (fun x hx => h x (List.mem_cons_of_mem _ hx))]
    rw [List.append_assoc, List.length_cons]
    congr 1
    omega
theorem cv_mem {cs : List Col} {key : Int} (h : chkS cs key = 0) : ∀ c ∈ cs, CV c := by
  intro c hc
  obtain ⟨i, hi, rfl⟩ := List.getElem_of_mem hc
  have := cv_of h hi
  rw [List.getD_eq_getElem?_getD, List.getElem?_eq_getElem hi] at this
  exact this
/-- The text of a valid schema is read as the schema. -/
theorem read_fmt {cs : List Col} {key : Int} (h : chkS cs key = 0) (hl : (fmtL cs key).length ≤ 65536) : prsS (fmtL cs key) = ⟨cs, key, 0, 0⟩ := by
  obtain ⟨_, _, hch, k0, k1⟩ := chkS_ok h
  obtain ⟨kn, rfl⟩ := Int.eq_ofNat_of_zero_le k0
  have hkn : kn < cs.length := by omega
  have hcv := cv_of h hkn
  have hk : isKey (keyL ++ 32 :: (cs.getD kn col0).nm.data.toList) (cs.getD kn col0).nm.data.toList := ⟨hcv.okC.1, rfl⟩
  have hnl : ∀ t ∈ cs.map colL ++ [keyL ++ 32 :: (cs.getD kn col0).nm.data.toList], (10 : UInt8) ∉ t := by
    intro t ht
    rcases List.mem_append.1 ht with ht | ht
    · obtain ⟨c, hc, rfl⟩ := List.mem_map.1 ht
      exact (cv_mem h c hc).no_nl
    · rw [List.mem_singleton.1 ht]
      intro hm
      rcases List.mem_append.1 hm with hm | hm
      · exact absurd hm (by decide)
      · rcases List.mem_cons.1 hm with e | hm
        · exact absurd e (by decide)
        · exact (nm_bytes hcv.name _ hm).1 rfl
  have hf : fnd cs (str (cs.getD kn col0).nm.data.toList) = (kn : Nat) := by
    rw [str_of]
    refine fnd_hit hkn rfl (fun j hj he => ?_)
    exact (chkCol_ok (hch kn hkn)).2.1 ⟨j, hj, he⟩
  unfold prsS
  rw [if_neg (by omega), fmtL_unl, Int.toNat_natCast, lns_unl hnl]
  simp only
  rw [plr_cols hk cs [] 0 (cv_mem h)]
  unfold prsR
  simp only [List.nil_append]
  rw [hf, if_neg (by omega), if_neg (fun hh => hh h)]
end Go.SC
