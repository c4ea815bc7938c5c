/- The texts of values: the functions of package value and of the reference that need no number of strconv. -/
import Derived.Test.YtidlemedkjkmdaaDoorValN
import Derived.Test.YtidlemedkjkmdaaDoorDateW7
import Derived.Test.YtidlemedkjkmdaaDoorDecW4
import Derived.Lib.ItoaNum
import Derived.BigQuiet
import Derived.Deep.RegionWith
namespace Go.VB
open Go.RowKit
/-- append of a row of two bytes. -/
theorem wpl_app2 {P : Program} {w : World} {ops : Array Oper} {rest : List Oper} {o : Oper} {a : Act} {Q : Exit → Act → World → Prop} (hgd : o.guard = none) (s x : Operand) (t : TypeId)
    (ho : o.op = .call { callee := .builtin .append, args := #[s, x], argTypes := #[t, t] })
    (base : Nat) (e : TypeId) (ht : P.underlying t = some (.slice e)) (hinfo : (P.info? e).map (fun i => (i.zero, i.size, i.bytes)) = some (some (.int .u8 0), 1, 1))
    (v : Value) (bs : List UInt8) (hs : a.eval s = v) (hown : OwnB e w base v bs)
    (g : Nat) (m : Nat) (c d : Int) (hx : a.eval x = .slice (some ⟨g, 0, none⟩) 2 m) (hcell : w.cell? ⟨g, 0, none⟩ = some (.int .u8 c)) (hcell2 : w.cell? ⟨g, 1, none⟩ = some (.int .u8 d)) (h0 : 0 ≤ c) (h1 : c < 256) (h2 : 0 ≤ d) (h3 : d < 256)
    (hlen : bs.length < 1099511627776) (hbase : base ≤ w.heap.size)
    (h : ∀ v' w', OwnB e w' base v' (bs ++ [UInt8.ofNat c.toNat, UInt8.ofNat d.toNat]) → Below base w w' → wpList P ops Q rest (a.put o.dst v') w') : wpList P ops Q (o :: rest) a w := by
  obtain ⟨i, hi, hz, hsz, hby⟩ := info_parts hinfo
  refine wpList_append_own w hgd s x t ho base e i (.int .u8 0) 1 1 ht hi hz hsz hby rfl (by decide) v bs.length (bs.map bv) hs hown ⟨g, 0, none⟩ 2 m [.int .u8 c, .int .u8 d] hx rfl ?_ ?_ ?_ ?_ hbase ?_
  · intro j u hj
    match j, hj with
    | 0, hj => simp at hj; subst hj; simpa [Addr.add] using hcell
    | 1, hj => simp at hj; subst hj; simpa [Addr.add] using hcell2
  · intro u hu; simp at hu; rcases hu with rfl | rfl <;> rfl
  · unfold maxLen; omega
  · omega
  · intro v' w' ho' hg _
    refine h v' w' ?_ ?_
    · unfold OwnB
      rw [List.map_append, List.map_cons, List.map_cons, List.map_nil, u8_ofInt h0 h1, u8_ofInt h2 h3, List.length_append]
      exact ho'
    · exact (Below.refl _ _).grown hg hbase (fun k hk => (World.ownsRow.lt hown k hk).1)
end Go.VB
namespace Go.VL
open Go.RowKit Go.VB Go.DT Go.DC
/-- The code of a hexadecimal digit. -/
def hc (k : Nat) : Nat := if k < 10 then 48 + k else 87 + k
theorem hc_lt {k : Nat} (h : k < 16) : hc k < 256 := by unfold hc; split <;> omega
/-- Two digits for each of the first n bytes. -/
def hexs (s : ByteArray) : Nat → List UInt8
  | 0 => []
  | n + 1 => hexs s n ++ [UInt8.ofNat (hc (bN s n / 16)), UInt8.ofNat (hc (bN s n % 16))]
theorem hexs_len (s : ByteArray) : ∀ n, (hexs s n).length = 2 * n
  | 0 => rfl
  | n + 1 => by rw [hexs, List.length_append, hexs_len s n]; simp; omega
/-- A text of bytes. -/
def QT (s : ByteArray) : ByteArray := str (34 :: (hexs s s.size ++ [34]))
/-- The text of a number. -/
def NT (n : Int) : ByteArray := ⟨(Lib.itoa n).toArray⟩
theorem hex_at : ∀ k, k < 16 → (⟨#[48, 49, 50, 51, 52, 53, 54, 55, 56, 57, 97, 98, 99, 100, 101, 102]⟩ : ByteArray).toList[k]? = some (UInt8.ofNat (hc k)) := by
  have h : ∀ k : Fin 16, (⟨#[48, 49, 50, 51, 52, 53, 54, 55, 56, 57, 97, 98, 99, 100, 101, 102]⟩ : ByteArray).toList[k.val]? = some (UInt8.ofNat (hc k.val)) := by decide +kernel
  intro k hk; exact h ⟨k, hk⟩
theorem hex_cut : ∀ k, k < 16 → (⟨#[48, 49, 50, 51, 52, 53, 54, 55, 56, 57, 97, 98, 99, 100, 101, 102]⟩ : ByteArray).extract k (k + 1) = str [UInt8.ofNat (hc k)] := by
  have h : ∀ k : Fin 16, (⟨#[48, 49, 50, 51, 52, 53, 54, 55, 56, 57, 97, 98, 99, 100, 101, 102]⟩ : ByteArray).extract k.val (k.val + 1) = str [UInt8.ofNat (hc k.val)] := by decide +kernel
  intro k hk; exact h ⟨k, hk⟩
theorem and15 : ∀ a : Nat, a < 256 → bits .and .u8 (a : Int) 15 = ((a % 16 : Nat) : Int) := by
  have h : ∀ a : Fin 256, bits .and .u8 (a.val : Int) 15 = ((a.val % 16 : Nat) : Int) := by decide +kernel
  intro a ha; exact h ⟨a, ha⟩
theorem hex_bN : ∀ k, k < 16 → bN (⟨#[48, 49, 50, 51, 52, 53, 54, 55, 56, 57, 97, 98, 99, 100, 101, 102]⟩ : ByteArray) k = hc k := by
  have h : ∀ k : Fin 16, bN (⟨#[48, 49, 50, 51, 52, 53, 54, 55, 56, 57, 97, 98, 99, 100, 101, 102]⟩ : ByteArray) k.val = hc k.val := by decide +kernel
  intro k hk; exact h ⟨k, hk⟩
/-- A row of two bytes, as an operation's result. -/
def Two8 (c d : Int) : Go.Confl.Post := fun v w => ∃ g m, v = .slice (some ⟨g, 0, none⟩) 2 m ∧ w.cell? ⟨g, 0, none⟩ = some (.int .u8 c) ∧ w.cell? ⟨g, 1, none⟩ = some (.int .u8 d)
theorem Two8.stable (c d : Int) : Go.Confl.Stable (Two8 c d) := fun _ w _ ⟨g, m, h1, h2, h3⟩ hb => ⟨g, m, h1, (hb.cell (World.block_lt_of_cell? w _ h2)).trans h2, (hb.cell (World.block_lt_of_cell? w _ h3)).trans h3⟩
end Go.VL
namespace Go.Proofs.YtidlemedkjkmdaaDoor
open Go.RowKit Go.VB Go.VL Go.DT Go.DC
set_option linter.constructorNameAsVariable false
set_option maxRecDepth 100000 in
theorem fBool_any (n : Int) (w : World) : Calls Tryd.prog 15 #[.int .i64 n] w (Ret (.string (if n = 1 then ⟨#[116, 114, 117, 101]⟩ else ⟨#[102, 97, 108, 115, 101]⟩)) w) := by
  by_cases h : n = 1
  · subst h
    rw [if_pos rfl]
    go_enter Tryd.func15, Tryd.ntmps15
    go_wp2
    go_ret
    exact Ret.mk rfl
  · rw [if_neg h]
    have hf := ieq_f h
    clear h
    go_enter Tryd.func15, Tryd.ntmps15
    go_wp2
    go_ret
    exact Ret.mk rfl
set_option maxRecDepth 100000 in
set_option maxHeartbeats 4000000 in
theorem fBytes_any (s : ByteArray) (W0 : World) (zs : s.size ≤ 64) : Calls Tryd.prog 16 #[.string s] W0 (RetB (.string (QT s)) W0) := by
  have HR := Lib.hid (show QT s = str (34 :: (hexs s s.size ++ [34])) from rfl)
  generalize QT s = R at *
  have hb := get_bN s
  have HCV := Lib.hid (fun (w : World) (v : Value) (bs : List UInt8) (B : Nat) (h : OwnB 5 w B v bs) => run_string_of_own (P := Tryd.prog) 59 9 5 Tryd.underlying59 Tryd.underlying5 Tryd.underlying9 h)
  obtain ⟨i8, hi8, hz8, hsz8, hby8⟩ := info_parts Tryd.inf8
  have hmk := run_make (P := Tryd.prog) W0 59 5 i8 (.int .u8 0) Tryd.underlying59 hi8 hz8 .i64 .i64 0 ((s.size : Int) * 2 + 2) (by omega) (by omega) (by rw [hby8]; omega) (by omega)
  rw [hsz8, Nat.mul_one] at hmk
  have hown0 : OwnB 5 (W0.alloc (Obj.cells (madeCells (Value.int IntKind.u8 0).cells ((s.size : Int) * 2 + 2).toNat) 5)) W0.heap.size (Value.slice (some ⟨W0.heap.size, 0, none⟩) (Int.toNat 0) ((s.size : Int) * 2 + 2).toNat) [] :=
    World.ownsRow_made W0 _ _ (Nat.le_refl _) (by unfold maxLen; omega) (by rw [size_madeCells]; simp)
  have hbel0 : Below W0.heap.size W0 (W0.alloc (Obj.cells (madeCells (Value.int IntKind.u8 0).cells ((s.size : Int) * 2 + 2).toNat) 5)) := (Below.refl _ _).alloc (Nat.le_refl _) _
  generalize Value.slice (some ⟨W0.heap.size, 0, none⟩) (Int.toNat 0) ((s.size : Int) * 2 + 2).toNat = V0 at *
  generalize W0.alloc (Obj.cells (madeCells (Value.int IntKind.u8 0).cells ((s.size : Int) * 2 + 2).toNat) 5) = W1 at *
  clear hi8 hz8 hsz8 hby8
  go_enter Tryd.func16, Tryd.ntmps16
  have hDs : (⟨#[48, 49, 50, 51, 52, 53, 54, 55, 56, 57, 97, 98, 99, 100, 101, 102]⟩ : ByteArray).size = 16 := rfl
  have hDb : ∀ k, k < 16 → bN (⟨#[48, 49, 50, 51, 52, 53, 54, 55, 56, 57, 97, 98, 99, 100, 101, 102]⟩ : ByteArray) k = hc k := hex_bN
  have hDg := get_bN (⟨#[48, 49, 50, 51, 52, 53, 54, 55, 56, 57, 97, 98, 99, 100, 101, 102]⟩ : ByteArray)
  generalize (⟨#[48, 49, 50, 51, 52, 53, 54, 55, 56, 57, 97, 98, 99, 100, 101, 102]⟩ : ByteArray) = D at *
  have HDB := Lib.hid hDb
  have HDG := Lib.hid hDg
  have HB := Lib.hid hb
  clear hDb hDg hb
  go_wp2_with (at_builtin; refine wpl_app1 rfl _ _ 59 rfl W0.heap.size 5 Tryd.underlying59 Tryd.inf8 _ [] rfl (hown0.alloc _) W1.heap.size 1 _ rfl (cell_new1 _ _ _) (by omega) (by omega) (by simp) (by have := hbel0.size; simp; omega) ?_)
  intro v1 w1 hown1 hb1
  have hbel1 : Below W0.heap.size W0 w1 := hbel0.trans (((Below.refl _ _).alloc hbel0.size _).trans hb1)
  clear hmk hown0 hbel0 hb1
  go_wp2
  go_loopw [3, 15] (fun v i wr => ∃ j : Nat, i = .int .i64 (j : Int) ∧ j ≤ s.size ∧ OwnB 5 wr W0.heap.size v (34 :: hexs s j) ∧ Below W0.heap.size W0 wr) (fun _ i _ => s.size - (intOf i).toNat)
  case atStart => exact ⟨0, rfl, Nat.zero_le _, hown1, hbel1⟩
  case round =>
    obtain ⟨j, rfl, hj, hown, hbel⟩ := hrel
    by_cases hlt : j < s.size
    · have hgj := HB.out j
      have hcl := bN_lt s j
      have hbs : 34 :: hexs s (j + 1) = (34 :: hexs s j) ++ [UInt8.ofNat (hc (bN s j / 16)), UInt8.ofNat (hc (bN s j % 16))] := rfl
      have hA := and15 _ hcl
      generalize bN s j = c at *
      obtain ⟨p, hp⟩ : ∃ p, c / 16 = p := ⟨_, rfl⟩
      obtain ⟨q, hq⟩ : ∃ q, c % 16 = q := ⟨_, rfl⟩
      rw [hq] at hA
      rw [hp, hq] at hbs
      have hp16 : p < 16 := by omega
      have hq16 : q < 16 := by omega
      have hgp := HDG.out p
      have hgq := HDG.out q
      rw [HDB.out p hp16] at hgp
      rw [HDB.out q hq16] at hgq
      have hcp := hc_lt hp16
      have hcq := hc_lt hq16
      generalize hc p = x at *
      generalize hc q = y at *
      have hsh : (c : Int) / 16 = (p : Int) := by omega
      have HBS := Lib.hid hbs
      have HOW := Lib.hid hown
      clear hbs hown hown1 hbel1 hp hq
      go_wp2_with fail
      refine Go.ConflA.wp_region_tail_at 12 (by simp only [List.take_succ_cons, List.take_zero, List.map_cons, List.map_nil]; rfl) (by kernel_rfl) (by kernel_rfl) (by kernel_rfl) (by kernel_rfl) (by kernel_rfl) (Nat.zero_lt_succ _) (by kernel_rfl) ?_
      simp only [List.take_succ_cons, List.take_zero, List.drop_succ_cons, List.drop_zero]
      iterate 11
        first
        | (refine Go.ConflA.chainA_skip (Go.Confl.unwanted_is rfl rfl) ?_)
        | (first | apply Go.ConflA.chainA_is _ (Go.Confl.wanted_none rfl) | apply Go.ConflA.chainA_is _ (Go.Confl.wanted_is rfl rfl)
           · intro b w hr hb K hK
             simp [Go.Confl.readFacts, Go.Confl.tmpsOf, Go.Confl.writerOf, Go.Confl.Is, Op.operands, List.findIdx?, List.findIdx?.go] at hr
             go_wp2_with fail
             try (simp only [hr]; go_wp2)
             exact hK _ _ rfl (by first | exact Below.refl _ _ | assumption))
        simp only [List.nil_append, List.cons_append]
      apply Go.ConflA.chainA_any (Two8 (x : Int) (y : Int)) (Two8.stable _ _) (Go.Confl.wanted_none rfl)
      · intro f w hr hb K hK
        simp [Go.Confl.readFacts, Go.Confl.tmpsOf, Go.Confl.writerOf, Go.Confl.Is, Op.operands, List.findIdx?, List.findIdx?.go] at hr
        go_wp2_with fail
        exact hK _ _ ⟨_, _, rfl, by simp, by simp⟩ ((Below.refl _ _).alloc (Nat.le_refl _) _)
      simp only [List.nil_append, List.cons_append]
      intro us w hp hdist hb
      simp [Go.Confl.allPosts, Go.Confl.Is] at hp
      simp only [Go.Confl.putsFrom, Act.put, List.setIfInBounds_toArray, List.set_cons_zero, List.set_cons_succ]
      change wpList _ _ _ _ _ _
      obtain ⟨e0, e1, e2, e3, e4, e5, e6, e7, e8, e9, e10, g, gm, e11, hcell, hcell2⟩ := hp
      simp only [e0, e1, e2, e3, e4, e5, e6, e7, e8, e9, e10, e11]
      clear e0 e1 e2 e3 e4 e5 e6 e7 e8 e9 e10 e11 hdist hsh hgj hgp hgq hA
      have hown2 := OwnN_below8 HOW.out hb
      have hbel2 := hbel.trans ⟨hb.os, hb.tape, hb.output, hb.size, fun b hlt => hb.block b (Nat.lt_of_lt_of_le hlt hbel.size)⟩
      clear HOW hbel hb
      refine wpl_app2 rfl (.tmp 18) (.tmp 29) 59 rfl W0.heap.size 5 Tryd.underlying59 Tryd.inf8 _ _ rfl hown2 g gm _ _ rfl hcell hcell2 (by omega) (by omega) (by omega) (by omega) (by rw [List.length_cons, hexs_len]; omega) hbel2.size ?_
      intro v' w' hown' hb'
      have hbel3 := hbel2.trans hb'
      rw [Int.toNat_natCast, Int.toNat_natCast, ← HBS.out] at hown'
      clear hown2 hcell hcell2 hb' hbel2
      have HO := Lib.hid hown'
      clear hown'
      go_wp2
      exact ⟨⟨j + 1, by go_num, hlt, HO.out, hbel3⟩, by simp [intOf] <;> omega⟩
    · obtain rfl : j = s.size := by omega
      clear hown1 hbel1
      go_wp2_with (at_builtin; refine wpl_app1 rfl _ _ 59 rfl W0.heap.size 5 Tryd.underlying59 Tryd.inf8 _ (34 :: hexs s s.size) rfl (hown.alloc _) _ 1 _ rfl (cell_new1 _ _ _) (by omega) (by omega) (by rw [List.length_cons, hexs_len]; omega) (by have := hbel.size; simp; omega) ?_)
      intro v2 w2 hown2 hb2
      have hcv := HCV.out _ _ _ _ hown2
      have hbel2 : Below W0.heap.size W0 w2 := hbel.trans (((Below.refl _ _).alloc hbel.size _).trans hb2)
      clear HCV hown hown2 hb2 hbel
      go_wp2
      go_ret
      exact RetB.mk (by rw [HR.out]; rfl) hbel2
end Go.Proofs.YtidlemedkjkmdaaDoor
