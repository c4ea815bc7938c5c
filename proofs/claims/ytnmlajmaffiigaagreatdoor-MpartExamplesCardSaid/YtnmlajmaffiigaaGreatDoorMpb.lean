/- Layer 16: variables of any number of cells; rows of zones. -/
import Derived.Test.YtnmlajmaffiigaaGreatDoorZon
import Derived.Test.YtnmlajmaffiigaaGreatDoorGm
import Derived.Test.YtnmlajmaffiigaaGreatDoorMpa
import Derived.Test.YtnmlajmaffiigaaGreatDoorBt6
import Derived.Test.YtnmlajmaffiigaaGreatDoorCkW1
import Derived.Test.YtnmlajmaffiigaaGreatDoorCkR4
import Derived.Test.YtnmlajmaffiigaaGreatDoorGc
import Derived.Test.YtnmlajmaffiigaaGreatDoorCkK
import Derived.Test.YtnmlajmaffiigaaGreatDoorGr
import Derived.Test.YtnmlajmaffiigaaGreatDoorGq
namespace Go.MP
open Go.RowKit Go.VB Go.VS Go.VL Go.MK Go.ZN
/-- A variable of several cells in block b. -/
structure VarC (w : World) (b : Nat) (vs : List Value) : Prop where
  c : ∀ k u, vs[k]? = some u → w.cell? ⟨b, k, none⟩ = some u
  fr : ∀ k, k < vs.length → w.frozen? ⟨b, k, none⟩ = false
  lt : b < w.heap.size
section
variable {w w' : World} {b c B k : Nat} {vs : List Value} {x : Value}
theorem VarC.new (w : World) (vs : List Value) (T : TypeId) : VarC (w.alloc (.cells vs.toArray T)) w.heap.size vs := by
  refine ⟨fun k u h => ?_, fun k h => ?_, by simp⟩
  · simp [h]
  · simp
theorem VarC.below (h : VarC w b vs) (hb : Below B w w') (hB : b < B) : VarC w' b vs :=
  ⟨fun k u hu => by rw [hb.cell hB]; exact h.c k u hu, fun k hk => by rw [hb.frozen hB]; exact h.fr k hk, Nat.lt_of_lt_of_le h.lt hb.size⟩
theorem VarC.step (h : VarC w b vs) (hb : Below w.heap.size w w') : VarC w' b vs := h.below hb h.lt
theorem VarC.alloc (h : VarC w b vs) (o : Obj) : VarC (w.alloc o) b vs := h.step ((Below.refl _ _).alloc (Nat.le_refl _) o)
theorem VarC.set (h : VarC w b vs) (hk : k < vs.length) (x : Value) : VarC (w.setCell ⟨b, k, none⟩ x) b (vs.set k x) := by
  refine ⟨fun j u hu => ?_, fun j hj => by rw [World.frozen?_setCell]; exact h.fr j (by rwa [List.length_set] at hj), by rw [World.size_setCell]; exact h.lt⟩
  by_cases hj : k = j
  · subst hj
    rw [List.getElem?_set_self hk] at hu
    cases hu
    exact World.cell?_setCell_same _ _ _ (h.c k vs[k] (List.getElem?_eq_getElem hk))
  · rw [List.getElem?_set_ne hj] at hu
    rw [World.cell?_setCell_other _ _ _ _ (fun e => hj (congrArg Addr.off e))]
    exact h.c j u hu
theorem VarC.putC : ∀ (us : List Value) (o : Nat) {w : World} {vs : List Value}, VarC w b vs → o + us.length ≤ vs.length → VarC (Go.MK.putC w b o us) b (setL vs o us)
  | [], _, _, _, h, _ => h
  | u :: us, o, w, vs, h, hl => by
    rw [List.length_cons] at hl
    exact VarC.putC us (o + 1) (h.set (k := o) (by omega) u) (by rw [List.length_set]; omega)
end
theorem own_oputC {g base sz n : Nat} {e : TypeId} {v : Value} {xs : List Value} (hg : g < base) : ∀ (us : List Value) (o : Nat) {w : World}, w.ownsRow base e sz v n xs → (Go.MK.putC w g o us).ownsRow base e sz v n xs
  | [], _, _, h => h
  | u :: us, o, _, h => own_oputC hg us (o + 1) (ownsRow_setCell_below h (a := ⟨g, o, none⟩) hg u)
theorem deep_oputC {g base : Nat} {e : TypeId} {ps : List Go.RS.Sl} {ls : List (List Vl)} {w : World} (hg : g < base) (us : List Value) (o : Nat) (h : Go.RS.DeepLO e w base ps ls) : Go.RS.DeepLO e (Go.MK.putC w g o us) base ps ls :=
  ⟨h.1, fun i p r h1 h2 => own_oputC hg us o (h.2 i p r h1 h2)⟩
/-- A row of zones. -/
def zonL : Lay Zn where
  K := 8
  cs z := [.int .i64 z.rows, .int .i64 z.nulls, .bool z.mn.nu, .int .i64 z.mn.n, .string z.mn.s, .bool z.mx.nu, .int .i64 z.mx.n, .string z.mx.s]
  len _ := rfl
  pos := by decide
  one x u hu := by
    simp only [List.mem_cons, List.not_mem_nil, or_false] at hu
    rcases hu with rfl | rfl | rfl | rfl | rfl | rfl | rfl | rfl <;> rfl
  z := zn0
  zv := .agg #[.int .i64 0, .int .i64 0, .bool false, .int .i64 0, .string ⟨#[]⟩, .bool false, .int .i64 0, .string ⟨#[]⟩]
  zc := rfl
/-- What a footer says, as it is returned; its zones lie in the slice v. -/
def infV (v : Value) (f : Inf) : Value := .agg #[.int .i64 (f.rows : Nat), v, .bool f.lo.nu, .int .i64 f.lo.n, .string f.lo.s, .int .i64 (f.lq : Nat), .bool f.hi.nu, .int .i64 f.hi.n, .string f.hi.s, .int .i64 (f.hq : Nat)]
def InfP (f : Inf) (w : World) : Ending → World → Prop := fun en w' => ∃ v, en = .returned (infV v f) ∧ RdK zonL w' w'.heap.size v f.zs ∧ Below w.heap.size w w'
end Go.MP

namespace Go.MP
open Go.RowKit Go.VB Go.VarM Go.BP Go.VS Go.VL Go.CK Go.Proofs.YtnmlajmaffiigaaGreatDoor
end Go.MP
namespace Go.Proofs.YtnmlajmaffiigaaGreatDoor
open Go.RowKit Go.VB Go.VarM Go.BP Go.VS Go.VL Go.SC Go.CK Go.ST Go.MK Go.RS Go.ZN Go.MP
set_option linter.constructorNameAsVariable false
set_option maxRecDepth 100000 in
set_option maxHeartbeats 1000000 in
theorem pword_any (c : Nat) (W : World) (hcl : c < 4294967296) : Calls Tryz.prog 41 #[.int .u32 (c : Int)] W (RetB (.string (str (four c))) W) := by
  have hz : (Value.int .u8 0) = bv 0 := rfl
  have hmk := run_makeV (P := Tryz.prog) (z := .int .u8 0) rfl Tryz.underlying41 Tryz.inf8 4 (by omega) (by decide) W
  have hrow := RowV.made bv 0 5 W W.heap.size 4 (Nat.le_refl _) (by decide)
  have hb0 : Below W.heap.size W (W.alloc (.cells (madeCells #[.int .u8 0] 4) 5)) := (Below.refl _ _).alloc (Nat.le_refl _) _
  change RowV bv 5 (W.alloc (.cells (madeCells #[.int .u8 0] 4) 5)) W.heap.size W.heap.size 4 (List.replicate 4 0) at hrow
  have hmk1 : (Instr.makeSlice 41 (.int .i64 4) (.int .i64 4)).run Tryz.prog W = .ok (.slice (some ⟨W.heap.size, 0, none⟩) 4 4) (W.alloc (.cells (madeCells #[.int .u8 0] 4) 5)) := hmk
  clear hmk
  generalize W.alloc (.cells (madeCells #[.int .u8 0] 4) 5) = W2 at *
  go_enter Tryz.func41, Tryz.ntmps41
  go_wp2
  clear hmk1
  go_loopw [8] (fun i wr => ∃ (j : Nat) (ls : List UInt8), i = .int .i64 j ∧ j ≤ 4 ∧ RowV bv 5 wr W.heap.size W.heap.size 4 ls ∧ ls.length = 4 ∧ ls = (four c).take j ++ List.replicate (4 - j) 0 ∧ Below W.heap.size W wr) (fun i _ => 4 - (intOf i).toNat)
  case atStart => exact ⟨0, _, rfl, Nat.zero_le _, hrow, rfl, rfl, hb0⟩
  case round =>
    clear hrow hb0
    obtain ⟨j, ls, rfl, hj, hrw, hlen, hls, hbel⟩ := hrel
    have HL := Lib.hid hlen; have HLS := Lib.hid hls; clear hlen hls
    have h4 : j = 0 ∨ j = 1 ∨ j = 2 ∨ j = 3 ∨ j = 4 := by omega
    rcases h4 with rfl | rfl | rfl | rfl | rfl
    · have hc := hrw.cell 0 0 (by rw [HLS.out]; rfl)
      have hfz := hrw.frozen 0
      have ev : bv (UInt8.ofNat (c % 256)) = .int .u8 ((c:Int)%256) := by rw [bv_mod c rfl]; congr 1 <;> omega
      have hst := hrw.store 0 (UInt8.ofNat (c % 256))
      rw [ev] at hst
      have HST := Lib.hid hst
      have HN := Lib.hid (show ls.set 0 (UInt8.ofNat (c % 256)) = (four c).take (0 + 1) ++ List.replicate (4 - (0 + 1)) 0 by rw [HLS.out]; rfl)
      have hgl := hrw.lt.2
      clear hst ev hrw
      go_wp2_with fail
      go_roundw
      case rel => exact ⟨0 + 1, _, by go_num, by omega, HST.out, by rw [List.length_set]; exact HL.out, HN.out, hbel.setCell (Nat.le_refl _) _⟩
      case measure => simp [intOf] <;> omega
    · have hc := hrw.cell 1 0 (by rw [HLS.out]; rfl)
      have hfz := hrw.frozen 1
      have ev : bv (UInt8.ofNat ((c/256) % 256)) = .int .u8 ((c:Int)/256%256) := by rw [bv_mod (c/256) rfl]; congr 1 <;> omega
      have hst := hrw.store 1 (UInt8.ofNat ((c/256) % 256))
      rw [ev] at hst
      have HST := Lib.hid hst
      have HN := Lib.hid (show ls.set 1 (UInt8.ofNat ((c/256) % 256)) = (four c).take (1 + 1) ++ List.replicate (4 - (1 + 1)) 0 by rw [HLS.out]; rfl)
      have hgl := hrw.lt.2
      clear hst ev hrw
      go_wp2_with fail
      go_roundw
      case rel => exact ⟨1 + 1, _, by go_num, by omega, HST.out, by rw [List.length_set]; exact HL.out, HN.out, hbel.setCell (Nat.le_refl _) _⟩
      case measure => simp [intOf] <;> omega
    · have hc := hrw.cell 2 0 (by rw [HLS.out]; rfl)
      have hfz := hrw.frozen 2
      have ev : bv (UInt8.ofNat ((c/65536) % 256)) = .int .u8 ((c:Int)/65536%256) := by rw [bv_mod (c/65536) rfl]; congr 1 <;> omega
      have hst := hrw.store 2 (UInt8.ofNat ((c/65536) % 256))
      rw [ev] at hst
      have HST := Lib.hid hst
      have HN := Lib.hid (show ls.set 2 (UInt8.ofNat ((c/65536) % 256)) = (four c).take (2 + 1) ++ List.replicate (4 - (2 + 1)) 0 by rw [HLS.out]; rfl)
      have hgl := hrw.lt.2
      clear hst ev hrw
      go_wp2_with fail
      go_roundw
      case rel => exact ⟨2 + 1, _, by go_num, by omega, HST.out, by rw [List.length_set]; exact HL.out, HN.out, hbel.setCell (Nat.le_refl _) _⟩
      case measure => simp [intOf] <;> omega
    · have hc := hrw.cell 3 0 (by rw [HLS.out]; rfl)
      have hfz := hrw.frozen 3
      have ev : bv (UInt8.ofNat ((c/16777216) % 256)) = .int .u8 ((c:Int)/16777216) := by rw [bv_mod (c/16777216) rfl]; congr 1 <;> omega
      have hst := hrw.store 3 (UInt8.ofNat ((c/16777216) % 256))
      rw [ev] at hst
      have HST := Lib.hid hst
      have HN := Lib.hid (show ls.set 3 (UInt8.ofNat ((c/16777216) % 256)) = (four c).take (3 + 1) ++ List.replicate (4 - (3 + 1)) 0 by rw [HLS.out]; rfl)
      have hgl := hrw.lt.2
      clear hst ev hrw
      go_wp2_with fail
      go_roundw
      case rel => exact ⟨3 + 1, _, by go_num, by omega, HST.out, by rw [List.length_set]; exact HL.out, HN.out, hbel.setCell (Nat.le_refl _) _⟩
      case measure => simp [intOf] <;> omega
    · have hF : ls = four c := by rw [HLS.out]; rfl
      have hown : OwnB 5 wr W.heap.size (.slice (some ⟨W.heap.size, 0, none⟩) 4 4) (four c) := by
        have := hrw.own_at HL.out hF
        exact this
      have hcv := run_string_of_own (P := Tryz.prog) 41 9 5 Tryz.underlying41 Tryz.underlying5 Tryz.underlying9 hown
      clear hrw hown hF
      generalize str (four c) = S at *
      go_wp2
      go_ret
      exact RetB.mk rfl hbel
set_option maxRecDepth 100000 in
set_option maxHeartbeats 1000000 in
theorem colAt_any (cs : List Col) (v : Value) (key : Int) (i : Nat) (W : World) (hr : RdC W W.heap.size v cs) :
    Calls Tryz.prog 82 #[.agg #[v, .int .i64 key], .int .i64 (i : Int)] W (RetB (colT cs i).val W) := by
  have HB0 := Lib.hid ((Below.refl W.heap.size W).alloc (Nat.le_refl _) (.cells #[v, .int .i64 key] 24))
  have HS0 := Lib.hid (show (W.alloc (.cells #[v, .int .i64 key] 24)).heap.size = W.heap.size + 1 from by simp)
  have HB1 := Lib.hid (HB0.out.alloc (by rw [HS0.out]; omega) (.cells #[.string ⟨#[]⟩, .int .i64 0, .int .i64 0, .bool false] 62))
  obtain ⟨A, c, rfl, hc, hm, hrr⟩ := hr
  by_cases hi : i < cs.length
  · rw [colT_lt hi]
    obtain ⟨ad, rfl, hab, hat⟩ := hrr i hi
    obtain ⟨q0, q1, q2, q3⟩ := hat.below HB1.out hab
    have hd : decide ((i : Int) < (cs.length : Int)) = true := decide_eq_true (by omega)
    generalize cs.getD i col0 = C at *
    obtain ⟨nm, ty, sc, nu⟩ := C
    simp only at q0 q1 q2 q3
    clear hrr hat
    go_enter Tryz.func82, Tryz.ntmps82
    go_wp2_with fail
    refine bodyPost_ret (v := .agg #[.string nm, .int .i64 ty, .int .i64 sc, .bool nu]) (by simp [results, Tryz.results82, go_sem]) rfl ?_
    exact RetB.mk rfl (by go_grown)
  · rw [colT_seq hi]
    have hd : decide ((i : Int) < (cs.length : Int)) = false := decide_eq_false (by omega)
    clear hrr
    go_enter Tryz.func82, Tryz.ntmps82
    go_wp2_with fail
    refine bodyPost_ret (v := .agg #[.string ⟨#[115, 101, 113]⟩, .int .i64 1, .int .i64 0, .bool false]) (by simp [results, Tryz.results82, go_sem]) rfl ?_
    exact RetB.mk rfl (by go_grown)
set_option maxRecDepth 100000 in
set_option maxHeartbeats 1000000 in
theorem prank_any (b : Bool) (n : Int) (s : ByteArray) (q : Nat) (W : World) (hn : (Lit.int .i64 n).wf = true) (hs : s.size ≤ 140737488351232) (hq : q < 9223372036854775808) :
    Calls Tryz.prog 85 #[.agg #[.bool b, .int .i64 n, .string s, .int .i64 (q : Int)]] W (RetB (.string (str (putK ⟨b, n, s⟩ q))) W) := by
  have H1 := fun w => Lib.hid (putV_any b n s w hn hs)
  have H2 := fun w => Lib.hid (vput_any q w (by omega))
  have l1 := Go.ZN.putV_len (b := b) hn hs
  have l2 := putL_len10 (n := q) (by omega)
  rw [show putK ⟨b, n, s⟩ q = putV b n s ++ putL q from rfl]
  generalize putV b n s = p1 at *
  generalize putL q = p2 at *
  have a1 : ∀ w, (Op.stringOp .add (str p1) (str p2)).run Tryz.prog w = .ok (.string (str (p1 ++ p2))) w := fun w => by
    rw [run_string_add_sum w _ _ (by rw [str_size, str_size]; omega), str_append]
  clear l1 l2
  generalize str (p1 ++ p2) = q1 at *
  generalize str p1 = t1 at *
  generalize str p2 = t2 at *
  have hu : IntKind.u64.wrap (q : Int) = (q : Int) := IntWalk.u64_in _ ⟨by omega, by omega⟩
  have HV := Lib.hid (show ∀ w, Below (W.alloc (.cells #[.bool b, .int .i64 n, .string s, .int .i64 (q : Int)] 51)).heap.size (W.alloc (.cells #[.bool b, .int .i64 n, .string s, .int .i64 (q : Int)] 51)) w → Go.VL.Var4 w W.heap.size (.bool b) (.int .i64 n) (.string s) (.int .i64 (q : Int)) from fun w hb => (Go.VL.Var4.new W (.bool b) (.int .i64 n) (.string s) (.int .i64 (q : Int)) 51).step hb)
  have HB := Lib.hid (show Below W.heap.size W (W.alloc (.cells #[.bool b, .int .i64 n, .string s, .int .i64 (q : Int)] 51)) from (Below.refl _ _).alloc (Nat.le_refl _) _)
  go_enter Tryz.func85, Tryz.ntmps85
  go_wp2_with fail
  refine Go.Confl.wp_region_confl (by simp only [List.map_cons, List.map_nil]; rfl) (by kernel_rfl) (by kernel_rfl) ?_
  iterate 9
    first
    | (refine Go.Confl.chain_skip (Go.Confl.unwanted_is rfl rfl) ?_)
    | (first | apply Go.Confl.chain_is _ (Go.Confl.wanted_none rfl) | apply Go.Confl.chain_is _ (Go.Confl.wanted_is rfl rfl)
       · intro b w hr hb K hK
         simp [Go.Confl.readFacts, Go.Confl.tmpsOf, Go.Confl.writerOf, Go.Confl.Is, Op.operands, Call.operands, List.findIdx?, List.findIdx?.go] at hr
         obtain ⟨c0, c1, c2, c3⟩ := HV.out _ hb
         go_wp2_with (first
           | (go_at_call 124; (with_reducible refine (H1 _).out.mono ?_); rintro e w' ⟨rfl, hb'⟩)
           | (go_at_call 83; (with_reducible refine (H2 _).out.mono ?_); rintro e w' ⟨rfl, hb'⟩))
         try (simp only [hr]; go_wp2)
         exact hK _ _ rfl (by first | exact Below.refl _ _ | assumption))
    simp only [List.nil_append, List.cons_append]
  intro us w hp hb
  simp [Go.Confl.allPosts, Go.Confl.Is] at hp
  simp only [Go.Confl.putsFrom, hp, Act.put, List.setIfInBounds_toArray, List.set_cons_zero, List.set_cons_succ]
  go_wp2
  go_ret
  exact RetB.mk rfl (bel_trans HB.out hb)
end Go.Proofs.YtnmlajmaffiigaaGreatDoor

namespace Go.MP
open Go.RowKit Go.VB Go.VS Go.MK Go.RS
/-- A slice of slices of values, all of them the call's own. -/
def RetLO (eS eV : TypeId) (ls : List (List Vl)) (w : World) : Ending → World → Prop := fun en w' => ∃ v ps, en = .returned v ∧ OwnV Sl.val eS w' w.heap.size v ps ∧ DeepLO eV w' w.heap.size ps ls ∧ Below w.heap.size w w'
theorem RetLO.mk {eS eV : TypeId} {ls : List (List Vl)} {w w' : World} {x v : Value} {ps : List Sl} (hx : x = v) (ho : OwnV Sl.val eS w' w.heap.size v ps) (h : DeepLO eV w' w.heap.size ps ls) (hb : Below w.heap.size w w') : RetLO eS eV ls w (.returned x) w' := ⟨v, ps, by rw [hx], ho, h, hb⟩
end Go.MP
namespace Go.Proofs.YtnmlajmaffiigaaGreatDoor
open Go.RowKit Go.VB Go.VS Go.VL Go.SC Go.CK Go.ST Go.MK Go.RS Go.MP
set_option linter.constructorNameAsVariable false
set_option maxRecDepth 100000 in
set_option maxHeartbeats 1000000 in
theorem bcols_own (x : Value) (l : List Rc) (n : Int) (W : World) (hx : RdR W W.heap.size x l) (hb : l.length * 32 ≤ 140737488351232) :
    Calls Tryz.prog 79 #[x, .int .i64 n] W (RetLO 63 49 (colsL n l) W) := by
  by_cases h1 : n < 1
  · rw [colsL_out (.inl h1)]
    have hd : decide (n < 1) = true := decide_eq_true h1
    clear h1 hx hb
    go_enter Tryz.func79, Tryz.ntmps79
    go_wp2
    go_ret
    exact RetLO.mk rfl (OwnV.nil _ _ _ _) (DeepLO.nil _ _ _) (Below.refl _ _)
  have hd1 : decide (n < 1) = false := decide_eq_false h1
  by_cases h2 : 12 < n
  · rw [colsL_out (.inr h2)]
    have hd : decide (12 < n) = true := decide_eq_true h2
    clear h1 h2 hx hb
    go_enter Tryz.func79, Tryz.ntmps79
    go_wp2
    go_ret
    exact RetLO.mk rfl (OwnV.nil _ _ _ _) (DeepLO.nil _ _ _) (Below.refl _ _)
  have hd2 : decide (12 < n) = false := decide_eq_false h2
  obtain ⟨k, rfl⟩ : ∃ k : Nat, n = k := ⟨n.toNat, by omega⟩
  rw [colsL_in (by omega) (by omega)]
  have hmk1 := run_makeV (P := Tryz.prog) (z := .slice none 0 0) rfl Tryz.underlying56 Tryz.infSl k (by omega) (by unfold maxLen; omega) W
  have hrw0 := RowV.made Sl.val sl0 63 W W.heap.size k (Nat.le_refl _) (by unfold maxLen; omega)
  change RowV Sl.val 63 (W.alloc (.cells (madeCells #[.slice none 0 0] k) 63)) _ _ _ _ at hrw0
  have hb0 : Below W.heap.size W (W.alloc (.cells (madeCells #[.slice none 0 0] k) 63)) := (Below.refl _ _).alloc (Nat.le_refl _) _
  generalize (W.alloc (.cells (madeCells #[.slice none 0 0] k) 63)) = W1 at hrw0 hb0 hmk1
  have HX := Lib.hid hx; have HZ := Lib.hid hb; have HK := Lib.hid (show k ≤ 12 by omega)
  clear hx hb h1 h2
  go_enter Tryz.func79, Tryz.ntmps79
  go_wp2
  clear hmk1 hd1 hd2
  go_loopw [6, 17] (fun _ i wr => ∃ (j : Nat) (ps ds : List Sl), i = .int .i64 j ∧ j ≤ k ∧ RowV Sl.val 63 wr W.heap.size W.heap.size k ps ∧ Hid (ps.length = k) ∧ Hid (ps = ds ++ List.replicate (k - j) sl0) ∧ Hid (DeepLO 49 wr (W.heap.size + 1) ds ((List.range j).map fun c => colL c l)) ∧ Below W.heap.size W wr) (fun _ i _ => k - (intOf i).toNat)
  case atStart => exact ⟨0, _, [], rfl, Nat.zero_le _, hrw0, Lib.hid List.length_replicate, Lib.hid rfl, Lib.hid (DeepLO.nil _ _ _), hb0⟩
  case round =>
    clear hrw0 hb0
    obtain ⟨j, ps, ds, rfl, hj, hrw, HL, HQ, HD, hbel⟩ := hrel
    have hgw := hrw.lt.2
    have HDL := Lib.hid (show ds.length = j by rw [HD.out.1, List.length_map, List.length_range])
    by_cases hlt : j < k
    · have hv := Lib.hid (vals_any x l j wr ((HX.out.below hbel).more (by omega)) HZ.out)
      have HRW := Lib.hid hrw; have HBEL := Lib.hid hbel
      have hold := fill_at HQ.out HDL.out hlt
      have HOLD := Lib.hid hold
      clear hrw hbel hold
      go_wp2_with fail
      (with_reducible refine hv.out.mono ?_); rintro e w2 ⟨v, rfl, ho, hb2⟩
      obtain ⟨sA, sn, sc, rfl⟩ := ownL_sl ho
      have hr2 := HRW.out.below hb2
      have k0 := hr2.cell j sl0 HOLD.out
      have hf0 := hr2.frozen j
      have HRS := Lib.hid (hr2.store j ⟨sA, sn, sc⟩)
      have HSN := Lib.hid (fill_snoc (x := (⟨sA, sn, sc⟩ : Sl)) HQ.out HDL.out hlt)
      have HDN := Lib.hid (show DeepLO 49 (w2.setCell ⟨W.heap.size, j, none⟩ (.slice sA sn sc)) (W.heap.size + 1) (ds ++ [⟨sA, sn, sc⟩]) ((List.range (j + 1)).map fun c => colL c l) from by
        rw [List.range_succ, List.map_append]
        exact ((HD.out.below hb2).set (a := ⟨W.heap.size, j, none⟩) (Nat.lt_succ_self _) _).snoc (p := ⟨sA, sn, sc⟩) (ownsRow_setCell_below (ho.lower (b' := W.heap.size + 1) (by omega)) (a := ⟨W.heap.size, j, none⟩) (Nat.lt_succ_self _) _))
      have HBN := Lib.hid ((HBEL.out.trans (hb2.mono (Nat.le_of_lt hgw))).setCell (p := ⟨W.heap.size, j, none⟩) (Nat.le_refl _) (.slice sA sn sc))
      have hk12 := HK.out
      clear hr2 ho hb2 hv
      go_wp2_with fail
      go_roundw
      case rel => exact ⟨j + 1, _, ds ++ [⟨sA, sn, sc⟩], by go_num, hlt, HRS.out, Lib.hid (by rw [List.length_set]; exact HL.out), HSN, HDN, HBN.out⟩
      case measure => simp [intOf] <;> omega
    · obtain rfl : j = k := by omega
      have HF := Lib.hid (show ps = ds by rw [HQ.out, Nat.sub_self, List.replicate_zero, List.append_nil])
      have HOO := Lib.hid (hrw.own_at HL.out HF.out)
      have HDO := Lib.hid (HD.out.lower (show W.heap.size ≤ W.heap.size + 1 by omega))
      clear HD
      go_wp2
      go_ret
      exact RetLO.mk rfl HOO.out HDO.out hbel
end Go.Proofs.YtnmlajmaffiigaaGreatDoor

namespace Go.MP
open Go.RowKit Go.VB Go.VS Go.VL Go.CK Go.RS Go.SC Go.MK Go.RL
/-- The chunks as texts. -/
def chT (ch : List (List UInt8)) : List ByteArray := ch.map str
theorem chT_len (ch : List (List UInt8)) : (chT ch).length = ch.length := List.length_map _
theorem chT_snoc (ch : List (List UInt8)) (b : List UInt8) : chT (ch ++ [b]) = chT ch ++ [str b] := by unfold chT; rw [List.map_append]; rfl
/-- It returns chunks and the code 0. -/
def ChP (e : TypeId) (ch : List (List UInt8)) (w : World) : Ending → World → Prop := fun en w' => ∃ v, en = .returned (.tuple #[v, .int .i64 0]) ∧ OwnV Value.string e w' w.heap.size v (chT ch) ∧ Below w.heap.size w w'
theorem seq_fill {l : List Rc} {j n : Nat} {t : List Vl} {r : Rc} (ht : t = seqV (l.take j) ++ List.replicate (n - j) vl0) (hj : j < n) (hl : (l.take j).length = j) (hr : l[j]? = some r) : t.set j ⟨false, r.seq, ⟨#[]⟩⟩ = seqV (l.take (j + 1)) ++ List.replicate (n - (j + 1)) vl0 := by
  rw [seqV_snoc hr]
  exact fillK_snoc ht (by rw [seqV_len, hl]) hj
theorem seq_at {l : List Rc} {j n : Nat} {t : List Vl} (ht : t = seqV (l.take j) ++ List.replicate (n - j) vl0) (hj : j < n) (hl : (l.take j).length = j) : t[j]? = some vl0 := by
  subst ht
  rw [List.getElem?_append_right (by rw [seqV_len, hl]; exact Nat.le_refl _), seqV_len, hl, Nat.sub_self, List.getElem?_replicate]
  exact if_pos (by omega)
theorem ownV_sl {α : Type} {f : α → Value} {e : TypeId} {w : World} {base : Nat} {v : Value} {l : List α} (h : OwnV f e w base v l) : ∃ A n c, v = .slice A n c := by
  rcases h.forms with ⟨rfl, _⟩ | ⟨g, c, rfl, _⟩
  · exact ⟨_, _, _, rfl⟩
  · exact ⟨_, _, _, rfl⟩
theorem cols_all {cs : List Col} {l : List Rc} {m : Nat} (hm : cs.length = m) (h1 : 1 ≤ m) (h2 : m ≤ 12) : colsL m l ++ [seqV l] = (List.range (m + 1)).map (colV cs l) := by
  rw [colsL_in h1 h2, List.range_succ, List.map_append]
  congr 1
  · refine List.map_congr_left fun i hi => ?_
    rw [colV_lt (by have := List.mem_range.1 hi; omega)]
  · simp only [List.map_cons, List.map_nil]
    rw [colV_seq (by omega)]
end Go.MP
namespace Go.Proofs.YtnmlajmaffiigaaGreatDoor
open Go.RowKit Go.VB Go.VarM Go.BP Go.VS Go.VL Go.SC Go.CK Go.ST Go.MK Go.RS Go.ZN Go.MP Go.RL
set_option linter.constructorNameAsVariable false
set_option maxRecDepth 100000 in
set_option maxHeartbeats 1000000 in
theorem seqsOf_any (x : Value) (l : List Rc) (W : World) (hx : RdR W W.heap.size x l) (hb : l.length * 32 ≤ 140737488351232) :
    Calls Tryz.prog 80 #[x] W (RetVl 49 (seqV l) W) := by
  obtain ⟨A, c, n, rfl, hn, hnc, hcm⟩ := hx.bds
  have HX := Lib.hid hx; have HN := Lib.hid hn; have HZ := Lib.hid hb
  have hmk := run_makeK (P := Tryz.prog) (L := valL) Tryz.underlying63 Tryz.infVal n (by omega) (by unfold maxLen; omega) W
  have hrow := RowK.made valL 49 W W.heap.size n (Nat.le_refl _) (by unfold maxLen; omega)
  have hb0 : Below W.heap.size W (W.alloc (.cells (madeCells valL.zv.cells (n * valL.K)) 49)) := (Below.refl _ _).alloc (Nat.le_refl _) _
  generalize W.alloc (.cells (madeCells valL.zv.cells (n * valL.K)) 49) = W1 at hmk hrow hb0
  clear hx hn hb
  go_enter Tryz.func80, Tryz.ntmps80
  go_wp2
  clear hmk
  go_loopw [11] (fun iv wr => ∃ (j : Nat) (t : List Vl), iv = .int .i64 j ∧ j ≤ n ∧ RowK valL 49 wr W.heap.size W.heap.size n t ∧ Hid (t.length = n) ∧ Hid (t = seqV (l.take j) ++ List.replicate (n - j) vl0) ∧ Below W.heap.size W wr) (fun iv _ => n - (intOf iv).toNat)
  case atStart => exact ⟨0, _, rfl, Nat.zero_le _, hrow, Lib.hid List.length_replicate, Lib.hid rfl, hb0⟩
  case round =>
    clear hrow hb0
    obtain ⟨j, t, rfl, hj, hrw, HL, HT, hbel⟩ := hrel
    by_cases hlt : j < n
    · have hd1 : decide ((j : Int) < (n : Int)) = true := decide_eq_true (by omega)
      have hd1' : decide (j < n) = true := decide_eq_true hlt
      have hjl : j < l.length := by have := HN.out; omega
      have hlj : l[j]? = some l[j] := List.getElem?_eq_getElem hjl
      have htk : (l.take j).length = j := by rw [List.length_take]; omega
      obtain ⟨ad, rA, rn, rc, rfl, -, q0, q1, -, -⟩ := (HX.out.below hbel).at hlj
      have HSN := Lib.hid (seq_fill HT.out hlt htk hlj)
      have h0 := seq_at HT.out hlt htk
      generalize l[j] = R at q0 q1 HSN
      obtain ⟨q, row⟩ := R
      simp only at q0 q1 HSN
      have hgl := hrw.lt
      have hrw2 := hrw.alloc (.cells #[.int .i64 q, .slice rA rn rc] 67)
      have hk := hrw2.at h0 1 rfl
      have hf := hrw2.frozen (j * 3 + 1)
      have HST := Lib.hid ((hrw.store j 1 (.int .i64 q) h0 (by decide) (x' := ⟨false, q, ⟨#[]⟩⟩) rfl).alloc (.cells #[.int .i64 q, .slice rA rn rc] 67))
      have HBN := Lib.hid ((hbel.setCell (p := ⟨W.heap.size, j * 3 + 1, none⟩) (Nat.le_refl _) (.int .i64 q)).alloc (by rw [World.size_setCell]; exact hbel.size) (.cells #[.int .i64 q, .slice rA rn rc] 67))
      change _ = some (Value.int .i64 0) at hk
      have hgl2 := hgl.2
      have hkk : valL.K = 3 := rfl
      rw [hkk] at hk
      clear hrw hrw2 hlj hjl h0 hbel hgl
      go_wp2_with fail
      go_roundw
      case rel => exact ⟨j + 1, _, by go_num, hlt, HST.out, Lib.hid (by rw [List.length_set]; exact HL.out), HSN, HBN.out⟩
      case measure => simp [intOf]; omega
    · obtain rfl : j = n := by omega
      have hd1 : decide ((j : Int) < (j : Int)) = false := decide_eq_false (by omega)
      have HF := Lib.hid (show t = seqV l by rw [HT.out, Nat.sub_self, List.replicate_zero, List.append_nil, List.take_of_length_le (by have := HN.out; omega)])
      have HO := Lib.hid (ownK_L (hrw.own_at HL.out HF.out))
      clear hrw
      go_wp2
      go_ret
      exact RetVl.mk rfl HO.out hbel
set_option maxRecDepth 100000 in
set_option maxHeartbeats 2000000 in
theorem encCols_any (cs : List Col) (v : Value) (key : Int) (x : Value) (l : List Rc) (W : World) (hr : RdC W W.heap.size v cs) (hx : RdR W W.heap.size x l) (hc : chkS cs key = 0) (hl : l.length ≤ 1024) (ho : ∀ r ∈ l, okRec cs r = true) (hi : InR l) :
    Calls Tryz.prog 37 #[.agg #[v, .int .i64 key], x] W (ChP 9 (chs cs l (cs.length + 1)) W) := by
  obtain ⟨c0, c12, -, -, -⟩ := chkS_ok hc
  have HR := Lib.hid hr; have HX := Lib.hid hx
  have HEN := Lib.hid (fun (i : Nat) (w : World) (u : Value) (hu : RdL w w.heap.size u (colV cs l i)) => by
    have h := cenc_any (colT cs i).nm (colT cs i).ty (colT cs i).sc (colT cs i).nu u (colV cs l i) w hu (col_bd ho hi i)
    rw [encS_ok (col_E hc hl ho i), col_E hc hl ho i] at h
    exact (show Calls Tryz.prog 81 #[(colT cs i).val, u] w (RetB (.tuple #[.string (str (chB cs l i)), .int .i64 ((0 : Nat) : Int)]) w) from h))
  have HLN := Lib.hid (show l.length ≤ 1024 from hl)
  have HV := Lib.hid (Var2.new W v (.int .i64 key) 24)
  have HB0 := Lib.hid ((Below.refl W.heap.size W).alloc (Nat.le_refl _) (.cells #[v, .int .i64 key] 24))
  have HS0 := Lib.hid (show (W.alloc (.cells #[v, .int .i64 key] 24)).heap.size = W.heap.size + 1 from by simp)
  obtain ⟨A, cc, rfl, hcc, hcm, hrr⟩ := hr
  generalize hm : cs.length = m at *
  unfold maxLen at hcm
  have HM := Lib.hid hm
  clear hrr hc ho hi hl hx hm
  obtain ⟨W1, hW1⟩ : ∃ W1, W.alloc (.cells #[.slice A m cc, .int .i64 key] 24) = W1 := ⟨_, rfl⟩
  rw [hW1] at HV HB0 HS0
  obtain ⟨m1, hm1⟩ : ∃ m1, m1 = m + 1 := ⟨_, rfl⟩
  obtain ⟨v0, v1, -, -⟩ := id HV.out
  have hw1 := HS0.out
  -- the slice of the chunks
  have hmk := run_make0 (P := Tryz.prog) (z := .string ⟨#[]⟩) rfl Tryz.underlying81 Tryz.infStr m1 (by omega) (by unfold maxLen; omega) W1
  have hrow := OwnV.made0 Value.string (.string ⟨#[]⟩) 9 W1 (W.heap.size + 1) m1 (by omega) (by unfold maxLen; omega)
  have hb1 := HB0.out.alloc (by omega) (.cells (madeCells #[.string ⟨#[]⟩] m1) 9)
  have hb12 := (Below.refl W1.heap.size W1).alloc (Nat.le_refl _) (.cells (madeCells #[.string ⟨#[]⟩] m1) 9)
  have hs1 : (W1.alloc (.cells (madeCells #[.string ⟨#[]⟩] m1) 9)).heap.size = W.heap.size + 2 := by simp [hw1]
  generalize W1.alloc (.cells (madeCells #[.string ⟨#[]⟩] m1) 9) = W2 at *
  rw [show ((m1 : Nat) : Int) = (m : Int) + 1 by omega] at hmk
  have hwm : wrap64 ((m : Int) + 1) = (m : Int) + 1 := by unfold wrap64; omega
  have HM1 := Lib.hid hm1
  clear hm1
  have HROW := Lib.hid hrow; have HB1 := Lib.hid hb1; have HS1 := Lib.hid hs1
  have HBC := Lib.hid (bcols_own x l m W2 (HX.out.step hb1) (by have := HLN.out; omega))
  have HSQ := fun w (h : Below W2.heap.size W2 w) => Lib.hid (seqsOf_any x l w ((HX.out.step hb1).step h) (by have := HLN.out; omega))
  have HV2 := fun w (h : Below W2.heap.size W2 w) => Lib.hid (HV.out.below (B := W1.heap.size) (hb12.trans (h.mono (by have := hb12.size; omega))) (by omega))
  obtain ⟨v20, v21, -, -⟩ := (HV2 _ (Below.refl _ _)).out
  have hw2 := hs1
  clear hrow hb1 hs1 hb12
  go_enter Tryz.func37, Tryz.ntmps37
  go_wp2_with fail
  (with_reducible refine HBC.out.mono ?_); rintro e w3 ⟨u, ps, rfl, hown, hdeep, hb3⟩
  obtain ⟨uA, un, uc, rfl⟩ := ownV_sl hown
  have HS3 := Lib.hid (HSQ _ hb3).out
  have hn3 := hdeep.1
  have HO3 := Lib.hid hown; have HD3 := Lib.hid hdeep; have HB3 := Lib.hid hb3
  have h32 := hb3.size
  clear hown hdeep hb3 hmk HBC
  go_wp2_with fail
  (with_reducible refine HS3.out.mono ?_); rintro e w4 ⟨q, rfl, hq, hb4⟩
  obtain ⟨qA, qn, qc, rfl⟩ := ownL_sl hq
  have hbl := (Below.refl w4.heap.size w4).alloc (Nat.le_refl _) (.cells #[.slice qA qn qc] 63)
  have hb43 := hb4.size
  have HO4 := Lib.hid ((HO3.out.below hb4).alloc (.cells #[.slice qA qn qc] 63))
  have HD4 := Lib.hid ((HD3.out.below hb4).below hbl)
  have HP4 := Lib.hid ((hq.lower (show W2.heap.size ≤ w3.heap.size from h32)).below hbl)
  have HRD := Lib.hid (RdV.one Sl.val w4 (⟨qA, qn, qc⟩ : Sl) 1 63 (Nat.le_refl 1) (by decide))
  have HLE := Lib.hid (show W2.heap.size ≤ (w4.alloc (.cells #[.slice qA qn qc] 63)).heap.size from Nat.le_trans h32 (Nat.le_trans hb43 hbl.size))
  have HB4 := Lib.hid ((HB3.out.trans (hb4.mono h32)).trans (hbl.mono (Nat.le_trans h32 hb43)))
  have hpl : ps.length ≤ 12 := by rw [hn3, colsL_in (by omega) c12, List.length_map, List.length_range]; exact c12
  have HPL1 := Lib.hid (show ps.length + [(⟨qA, qn, qc⟩ : Sl)].length ≤ maxLen by unfold maxLen; simp only [List.length_cons, List.length_nil]; omega)
  have HPL2 := Lib.hid (show (ps.length + [(⟨qA, qn, qc⟩ : Sl)].length) * 24 ≤ 140737488355328 by simp only [List.length_cons, List.length_nil]; omega)
  have HN3 := Lib.hid (show ps.length = m by rw [hn3, colsL_in (by omega) c12, List.length_map, List.length_range])
  clear hn3 hq hb4 hbl hpl HS3 HSQ
  go_wp2_with (at_builtin; refine wpl_appV (f := Sl.val) (fun _ => rfl) (.slice none 0 0) rfl rfl _ _ 56 rfl W2.heap.size 63 24 Tryz.underlying56 Tryz.infSl _ ps rfl HO4.out _ _ [⟨qA, qn, qc⟩] rfl HRD.out HPL1.out HPL2.out HLE.out ?_)
  intro v' w5 hown' hb' hg'
  rw [← HS1.out] at hown' hb'
  have HDN := Lib.hid ((HD4.out.keep HO4.out (by decide) hg').snoc (p := ⟨qA, qn, qc⟩) (HP4.out.keep hg' (Go.RS.own_apart HP4.out HO4.out (by decide))))
  have HB5 := Lib.hid (HB4.out.trans hb')
  have hcolall : colsL m l ++ [seqV l] = (List.range (m + 1)).map (colV cs l) := cols_all HM.out (by omega) c12
  rw [hcolall] at HDN
  have HNL := Lib.hid (show (ps ++ [(⟨qA, qn, qc⟩ : Sl)]).length = m1 by rw [List.length_append, HN3.out, HM1.out]; rfl)
  generalize ps ++ [(⟨qA, qn, qc⟩ : Sl)] = PS at *
  obtain ⟨vA, vc, vn, rfl, hvn, -, -⟩ := hown'.read.bds
  obtain rfl : vn = m1 := by rw [hvn, HNL.out]
  have hw5 := hb'.size
  have hbW5 := HB5.out.size
  have HROW5 := Lib.hid (show OwnV Value.string 9 w5 (W.heap.size + 1) (.slice (some ⟨W.heap.size + 1, 0, none⟩) 0 vn) [] from by
    have h := HROW.out.below HB5.out
    rw [hw1] at h
    exact h)
  have HO5 := Lib.hid hown'
  have HV5 := Lib.hid (HV2 _ HB5.out).out
  have HBW := Lib.hid (HB1.out.trans (HB5.out.mono (by omega)))
  have HRC := Lib.hid (fun w (h : Below W.heap.size W w) => HR.out.below h)
  have HS5 := Lib.hid (show W.heap.size + 1 ≤ w5.heap.size by omega)
  clear hown' hb' hg' HB4 HP4 HRD HLE HD4 HO4 HPL1 HPL2 HO3 HD3 HB3 HX HV2 HROW hcolall hvn h32 hb43 hw5 hbW5 v0 v1 v20 v21
  go_wp2_with fail
  go_loopw [6, 7, 8, 9, 10, 26] (fun cv _ _ _ _ iv wr => ∃ j : Nat, iv = .int .i64 j ∧ j ≤ vn ∧ OwnV Value.string 9 wr (W.heap.size + 1) cv (chT (chs cs l j)) ∧ Hid (OwnV Sl.val 63 wr W2.heap.size (.slice vA vn vc) PS) ∧ Hid (DeepLO 49 wr W2.heap.size PS ((List.range (m + 1)).map (colV cs l))) ∧ Below (W.heap.size + 1) w5 wr) (fun _ _ _ _ _ iv _ => vn - (intOf iv).toNat)
  case atStart => exact ⟨0, rfl, Nat.zero_le _, HROW5.out, HO5, HDN, Below.refl _ _⟩
  case round =>
    clear HROW5 HO5 HDN
    obtain ⟨j, rfl, hj, hcv, HO, HD, hbel⟩ := hrel
    have hbW : Below W.heap.size W wr := HBW.out.trans (hbel.mono (Nat.le_succ _))
    obtain ⟨v0, v1, -, -⟩ := HV5.out.below hbel (Nat.lt_succ_self _)
    by_cases hlt : j < vn
    case neg =>
      obtain rfl : j = vn := by omega
      have hd0 : decide ((j : Int) < (j : Int)) = false := decide_eq_false (by omega)
      have HF := Lib.hid (show OwnV Value.string 9 wr W.heap.size _ (chT (chs cs l (m + 1))) from by have := hcv.lower (Nat.le_succ W.heap.size); rw [HM1.out] at this; exact this)
      obtain ⟨fA, fn, fc, rfl⟩ := ownV_sl HF.out
      clear HD HO hcv
      go_wp2
      go_ret2
      exact ⟨_, rfl, HF.out, hbW⟩
    have hd0 : decide ((j : Int) < (vn : Int)) = true := decide_eq_true (by omega)
    have hd0' : decide (j < vn) = true := decide_eq_true hlt
    have hpj : PS[j]? = some (PS[j]'(by rw [HNL.out]; exact hlt)) := List.getElem?_eq_getElem _
    have hcj : ((List.range (m + 1)).map (colV cs l))[j]? = some (colV cs l j) := by rw [List.getElem?_map, List.getElem?_range (by rw [← HM1.out]; exact hlt)]; rfl
    obtain ⟨ad, hvA, hab, k0⟩ := HO.out.read.at hpj
    have hrl := (HD.out.read).2 j _ _ hpj hcj
    generalize PS[j]'_ = P at k0 hrl
    obtain ⟨pA, pn, pc⟩ := P
    subst hvA
    change wr.cell? (ad.add j) = some (Value.slice pA pn pc) at k0
    change RdL wr wr.heap.size (Value.slice pA pn pc) _ at hrl
    obtain ⟨fA, fn, fc, rfl⟩ := ownV_sl hcv
    have HCA := Lib.hid (colAt_any cs (.slice A m cc) key j wr ((HRC.out _ hbW).more hbW.size))
    have HEJ := Lib.hid (fun w (h : Below wr.heap.size wr w) => HEN.out j w _ (hrl.step h))
    obtain ⟨T, hT⟩ : ∃ T, colT cs j = T := ⟨_, rfl⟩
    rw [hT] at HCA HEJ
    obtain ⟨tn, tt, ts, tu⟩ := T
    have HCV := Lib.hid hcv; have HBL := Lib.hid hbel
    have HLC := Lib.hid (show (chT (chs cs l j)).length ≤ 13 by rw [chT_len, chs_len]; have := HM1.out; omega)
    have hv13 : vn ≤ 13 := by have := HM1.out; omega
    have hws := hbel.size
    clear hcv hbel hpj hcj hrl hT hbW
    go_wp2_with fail
    (with_reducible refine HCA.out.mono ?_); rintro e w6 ⟨rfl, hb6⟩
    have HE6 := Lib.hid (HEJ.out _ hb6)
    clear HEJ HCA
    go_wp2_with fail
    (with_reducible refine HE6.out.mono ?_); rintro e w7 ⟨rfl, hb7⟩
    have hb67 := bel_trans hb6 hb7
    have hs67 := hb67.size
    have hbl := (Below.refl w7.heap.size w7).alloc (Nat.le_refl _) (.cells #[.string (str (chB cs l j))] 9)
    have HC7 := Lib.hid ((HCV.out.below hb67).alloc (.cells #[.string (str (chB cs l j))] 9))
    have HO7 := Lib.hid ((HO.out.below hb67).alloc (.cells #[.string (str (chB cs l j))] 9))
    have HD7 := Lib.hid ((HD.out.below hb67).below hbl)
    have HB7 := Lib.hid ((HBL.out.trans (hb67.mono (by have := HS5.out; omega))).trans (hbl.mono (by have := HS5.out; omega)))
    have HRD := Lib.hid (RdV.one Value.string w7 (str (chB cs l j)) 1 9 (Nat.le_refl 1) (by decide))
    have HLE := Lib.hid (show W.heap.size + 1 ≤ (w7.alloc (.cells #[.string (str (chB cs l j))] 9)).heap.size by have := hbl.size; have := HS5.out; omega)
    have HPL1 := Lib.hid (show (chT (chs cs l j)).length + [str (chB cs l j)].length ≤ maxLen by have := HLC.out; unfold maxLen; simp only [List.length_cons, List.length_nil]; omega)
    have HPL2 := Lib.hid (show ((chT (chs cs l j)).length + [str (chB cs l j)].length) * 16 ≤ 140737488355328 by have := HLC.out; simp only [List.length_cons, List.length_nil]; omega)
    clear hb6 hb7 hb67 hbl HE6 HO HD HCV HBL
    go_wp2_with (at_builtin; refine wpl_appV (f := Value.string) (fun _ => rfl) (.string ⟨#[]⟩) rfl rfl _ _ 81 rfl (W.heap.size + 1) 9 16 Tryz.underlying81 Tryz.infStr _ (chT (chs cs l j)) rfl HC7.out _ _ [str (chB cs l j)] rfl HRD.out HPL1.out HPL2.out HLE.out ?_)
    intro v'' w8 hown8 hb8 hg8
    have HCN := Lib.hid (show OwnV Value.string 9 w8 (W.heap.size + 1) v'' (chT (chs cs l (j + 1))) by rw [chs_snoc, chT_snoc]; exact hown8)
    have HON := Lib.hid (show OwnV Sl.val 63 w8 W2.heap.size _ PS from World.ownsRow.kept HO7.out hg8 (Go.RS.own_apart HO7.out HC7.out (by decide)))
    have HDN := Lib.hid (HD7.out.keep HC7.out (by decide) hg8)
    have HBN := Lib.hid (HB7.out.trans hb8)
    clear hown8 hb8 hg8 HC7 HO7 HD7 HB7 HRD
    go_wp2_with fail
    go_roundw
    case rel => exact ⟨j + 1, by go_num, hlt, HCN.out, HON, HDN, HBN.out⟩
    case measure => simp [intOf]; omega
end Go.Proofs.YtnmlajmaffiigaaGreatDoor
