/- The first words of the laws of layer 16: one. -/
import Derived.Test.YtnmlajmaffiigaaGreatDoorMpa
import Derived.Test.YtnmlajmaffiigaaGreatDoorBtP
import Derived.Test.YtnmlajmaffiigaaGreatDoorLaid
namespace Go.MP
open Go.RowKit Go.VB Go.VarM Go.VS Go.VL Go.SC Go.CK Go.ST Go.MK Go.RS Go.ZN
/-- The record of the laws' first example. -/
def r74 : Rc := ⟨4, [⟨false, 7, ⟨#[]⟩⟩]⟩
theorem val_r74 : okRec [colA] r74 = true := by decide +kernel
theorem srtd_74 : srtdB [colA] 0 [r74] = true := by
  rw [srtdB_val (valR_ok colA_chk fun k r h => by
    match k, h with
    | 0, h => cases h; exact val_r74)]
  refine ascR_ok fun i a b h1 h2 => ?_
  match i, h1, h2 with
  | 0, h1, h2 => cases h2
theorem in_74 : InR [r74] := by
  intro r hr x hx
  rw [List.mem_singleton.1 hr] at hx
  rw [List.mem_singleton.1 (show x ∈ [(⟨false, 7, ⟨#[]⟩⟩ : Vl)] from hx)]
  exact ⟨by decide, by decide⟩
theorem enc_74 : encFE [colA] 0 [r74] = 0 := encFE_ok (by decide) (by decide) srtd_74
/-- A schema of one column and a record. -/
def OneR (w : World) : Ending → World → Prop := fun en w' => ∃ v x, en = .returned (.tuple #[.agg #[v, .int .i64 0], x]) ∧ RdC w' w'.heap.size v [colA] ∧ RdR w' w'.heap.size x [r74] ∧ Below w.heap.size w w'
theorem file_ends (ch : List (List UInt8)) (b : List UInt8) : (str (fileB ch b)).extract 0 4 = str mkB ∧ (str (fileB ch b)).extract ((str (fileB ch b)).size - 4) (str (fileB ch b)).size = str mkB ∧ 16 ≤ (str (fileB ch b)).size := by
  rw [file_around, around_size]
  refine ⟨?_, ?_, by omega⟩
  · have h : around ch.flatten b = [] ++ (mkB ++ (ch.flatten ++ (sealB b ++ (four (sealB b).length ++ mkB)))) := rfl
    rw [h]
    exact cut_at _ _ _ rfl rfl
  · have h : around ch.flatten b = (mkB ++ (ch.flatten ++ (sealB b ++ four (sealB b).length))) ++ (mkB ++ []) := by unfold around; simp only [List.append_assoc, List.append_nil]
    rw [h]
    exact cut_at _ _ _ (by simp only [List.length_append, mk_len, seal_len, four_len]; omega) (by simp only [List.length_append, mk_len, seal_len, four_len]; omega)
end Go.MP
namespace Go.Proofs.YtnmlajmaffiigaaGreatDoor
open Go.RowKit Go.VB Go.VarM Go.BP Go.VS Go.VL Go.SC Go.CK Go.ST Go.MK Go.RS Go.ZN Go.MP
set_option linter.constructorNameAsVariable false
/-- No law reads the tables that the rows list. -/
def TabOk (_ : World) : Prop := True
theorem tab_of_laid {W : World} {laid : List (String × DataW Unit)} (_ : laidMetH Tryz.prog laid W) : TabOk W := trivial
set_option maxRecDepth 100000 in
set_option maxHeartbeats 400000 in
theorem one16_any (w : World) : Calls Tryz.prog 13 #[] w (OneR w) := by
  have hb1 : Below w.heap.size w (w.alloc (.cells #[.slice (some ⟨w.heap.size + 1, 0, none⟩) 1 1, .int .i64 0] 24)) := (Below.refl _ _).alloc (Nat.le_refl _) _
  have hs1 : (w.alloc (.cells #[.slice (some ⟨w.heap.size + 1, 0, none⟩) 1 1, .int .i64 0] 24)).heap.size = w.heap.size + 1 := by simp
  obtain ⟨X1, hX1⟩ : ∃ X, w.alloc (.cells #[.slice (some ⟨w.heap.size + 1, 0, none⟩) 1 1, .int .i64 0] 24) = X := ⟨_, rfl⟩
  rw [hX1] at hb1 hs1
  have hb2 := (Below.refl X1.heap.size X1).alloc (Nat.le_refl _) (.cells #[.string ⟨#[97]⟩, .int .i64 1, .int .i64 0, .bool false] 62)
  have hs2 : (X1.alloc (.cells #[.string ⟨#[97]⟩, .int .i64 1, .int .i64 0, .bool false] 62)).heap.size = w.heap.size + 2 := by simp [hs1]
  have hown : OwnC 62 (X1.alloc (.cells #[.string ⟨#[97]⟩, .int .i64 1, .int .i64 0, .bool false] 62)) X1.heap.size (.slice (some ⟨X1.heap.size, 0, none⟩) 1 1) [colA] :=
    World.ownsRow_lit (base := X1.heap.size) (e := 62) (size := 4) X1 #[.string ⟨#[97]⟩, .int .i64 1, .int .i64 0, .bool false] 1 (Nat.le_refl _) (by decide) rfl
  obtain ⟨X2, hX2⟩ : ∃ X, X1.alloc (.cells #[.string ⟨#[97]⟩, .int .i64 1, .int .i64 0, .bool false] 62) = X := ⟨_, rfl⟩
  rw [hX2] at hb2 hs2 hown
  have hb3 := (Below.refl X2.heap.size X2).alloc (Nat.le_refl _) (.cells #[.bool false, .int .i64 7, .string ⟨#[]⟩] 49)
  have hs3 : (X2.alloc (.cells #[.bool false, .int .i64 7, .string ⟨#[]⟩] 49)).heap.size = w.heap.size + 3 := by simp [hs2]
  have hv3 := RdL.lit X2 [⟨false, 7, ⟨#[]⟩⟩] 1 49 (Nat.le_refl 1) (by decide)
  change RdL (X2.alloc (.cells #[.bool false, .int .i64 7, .string ⟨#[]⟩] 49)) _ _ _ at hv3
  obtain ⟨X3, hX3⟩ : ∃ X, X2.alloc (.cells #[.bool false, .int .i64 7, .string ⟨#[]⟩] 49) = X := ⟨_, rfl⟩
  rw [hX3] at hb3 hs3 hv3
  rw [hs2] at hv3
  have hb4 := (Below.refl X3.heap.size X3).alloc (Nat.le_refl _) (.cells #[.int .i64 4, .slice (some ⟨w.heap.size + 2, 0, none⟩) 1 1] 67)
  have hs4 : (X3.alloc (.cells #[.int .i64 4, .slice (some ⟨w.heap.size + 2, 0, none⟩) 1 1] 67)).heap.size = w.heap.size + 4 := by simp [hs3]
  have hr4 := RdK.lit (L := recL) X3 [⟨4, ⟨some ⟨w.heap.size + 2, 0, none⟩, 1, 1⟩⟩] 1 67 (Nat.le_refl 1) (by decide)
  change RdK recL (X3.alloc (.cells #[.int .i64 4, .slice (some ⟨w.heap.size + 2, 0, none⟩) 1 1] 67)) _ _ _ at hr4
  obtain ⟨X4, hX4⟩ : ∃ X, X3.alloc (.cells #[.int .i64 4, .slice (some ⟨w.heap.size + 2, 0, none⟩) 1 1] 67) = X := ⟨_, rfl⟩
  rw [hX4] at hb4 hs4 hr4
  rw [hs3] at hr4
  rw [hs1] at hown
  have hC := ((OwnC.read hown).step (hb3.trans (hb4.mono (by omega))))
  have hR : RdR X4 X4.heap.size (.slice (some ⟨w.heap.size + 3, 0, none⟩) 1 1) [r74] := ⟨_, by
    have h := hr4.more (B' := X4.heap.size) (by omega)
    exact h, DeepR.one (p := ⟨4, ⟨some ⟨w.heap.size + 2, 0, none⟩, 1, 1⟩⟩) (r := r74) rfl ((hv3.below (hb4.mono (by omega))).more (by omega))⟩
  have HC := Lib.hid hC; have HR := Lib.hid hR
  have HB := Lib.hid (hb1.trans ((hb2.trans ((hb3.trans (hb4.mono (by omega))).mono (by omega))).mono (by omega)))
  have HXX := Lib.hid (show (((w.alloc (.cells #[.slice (some ⟨w.heap.size + 1, 0, none⟩) 1 1, .int .i64 0] 24)).alloc (.cells #[.string ⟨#[97]⟩, .int .i64 1, .int .i64 0, .bool false] 62)).alloc (.cells #[.bool false, .int .i64 7, .string ⟨#[]⟩] 49)).alloc (.cells #[.int .i64 4, .slice (some ⟨w.heap.size + 2, 0, none⟩) 1 1] 67) = X4 by rw [hX1, hX2, hX3, hX4])
  clear hC hR hb1 hb2 hb3 hb4 hs1 hs2 hs3 hs4 hown hv3 hr4 hX1 hX2 hX3 hX4
  go_enter Tryz.func13, Tryz.ntmps13
  go_wp2
  refine bodyPost_ret (v := .tuple #[.agg #[.slice (some ⟨w.heap.size + 1, 0, none⟩) 1 1, .int .i64 0], .slice (some ⟨w.heap.size + 3, 0, none⟩) 1 1]) (by simp [results, Tryz.results13, go_sem]) rfl ?_
  rw [HXX.out]
  exact ⟨_, _, rfl, HC.out, HR.out, HB.out⟩
end Go.Proofs.YtnmlajmaffiigaaGreatDoor
