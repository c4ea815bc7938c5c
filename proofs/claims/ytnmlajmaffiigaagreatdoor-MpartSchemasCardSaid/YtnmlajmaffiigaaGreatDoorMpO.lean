/- Texts of one part, joined. -/
import Derived.Test.YtnmlajmaffiigaaGreatDoorMpG2
import Derived.Test.YtnmlajmaffiigaaGreatDoorMpG4
import Derived.Test.YtnmlajmaffiigaaGreatDoorMpD1
import Derived.Test.YtnmlajmaffiigaaGreatDoorBt2
import Derived.Test.YtnmlajmaffiigaaGreatDoorCkW8
set_option linter.constructorNameAsVariable false
set_option maxRecDepth 100000
set_option maxHeartbeats 2000000
open Go Go.Proofs Go.Proofs.YtnmlajmaffiigaaGreatDoor Go.P
namespace Go.MP
open RowKit VB VarM VS VL SC CK Go.ST MK RS ZN
theorem Di8{G:Nat->World->Option Addr->Nat->Nat->Option Addr->Nat->Nat->Inf->List Nat->Bool->Prop}(H:Nat->World->Option Addr->Nat->Nat->Option Addr->Nat->Nat->Inf->List Nat->Bool->Prop){P:Prop}(Ab:(∀b Y zA zn zc cA cn cc f ks ok,H b Y zA zn zc cA cn cc f ks ok->G b Y zA zn zc cA cn cc f ks ok)->P)(Aa:∀b Y zA zn zc cA cn cc f ks ok,H b Y zA zn zc cA cn cc f ks ok->G b Y zA zn zc cA cn cc f ks ok):P:=Ab Aa
def OpnP(eZ eS:TypeId)(cs:List Col)(key:Int)(file:ByteArray)(W:World):Ending->World->Prop:=fun en w'=>∃zv cv,en=.returned (.tuple #[Dy6 zv cv (opn cs key file).2.inf,.int .i64 ((opn cs key file).1:Nat)]) /\
 OwnK zonL eZ w' W.heap.size zv (opn cs key file).2.inf.zs/\OwnV Value.string eS w' W.heap.size cv (chL file (opn cs key file).2)/\Below W.heap.size W w'
def InfoP(cs:List Col)(key:Int)(file:ByteArray)(W:World):Ending->World->Prop:=fun en w'=>∃zv,en=.returned (.tuple #[Dg4 zv (opn cs key file).2.inf,.int .i64 ((opn cs key file).1:Nat)]) /\
 RdK zonL w' w'.heap.size zv (opn cs key file).2.inf.zs/\Below W.heap.size W w'
def conV0:Value:=.agg #[.int .i64 0,.slice none 0 0,.bool false,.int .i64 0,.string ⟨#[]⟩,.int .i64 0,.bool false,.int .i64 0,.string ⟨#[]⟩,.int .i64 0,.slice none 0 0]
theorem OpnP.bad{eZ eS:TypeId}{cs:List Col}{key:Int}{file:ByteArray}{W w':World}{e:Nat}{x:Value}(h:opn cs key file=(e,Ec3))(hx:x=.tuple #[conV0,.int .i64 (e:Nat)])(hb:Below W.heap.size W w'):OpnP eZ eS cs key file W (.returned x) w':=
 ⟨.slice none 0 0,.slice none 0 0,by rw[hx,h];rfl,by rw[h];exact OwnK.nil _ _ _ _,by rw[h];exact OwnV.nil _ _ _ _,hb⟩
end Go.MP
namespace Go.P
open RowKit VB VarM BP VS VL SC CK Go.ST MK RS ZN MP
theorem Bi7(cs:List Col)(v:Value)(key:Int)(file:ByteArray)(W:World)(hr:RdC W W.heap.size v cs)(hs:file.size<=140737488351232):
   Calls Tryz.prog 62 #[.agg #[v,.int .i64 key],.string file] W (OpnP 59 9 cs key file W):=by
 have HR:=Hd hr
 have HV:=Hd (Var2.new W v (.int .i64 key) 24)
 have Br:=Hd ((Q2 W.heap.size W).alloc (Q1 _) (.cells #[v,.int .i64 key] 24))
 have Cc:=Hd (show(W.alloc (.cells #[v,.int .i64 key] 24)).heap.size=W.heap.size+1 from by simp)
 obtain⟨W1,Db⟩:∃W1,W.alloc (.cells #[v,.int .i64 key] 24)=W1:=⟨_,rfl⟩
 rw[Db] at HV Br Cc
 have Df:=Hd (fun(w:World)(h:Below W1.heap.size W1 w)=>HV.out.below h (by rw[Cc.out];omega))
 obtain⟨A,cc,rfl,-,-,-⟩:=hr
 have HQ:=VarC.new W1 [.int .i64 0,.slice none 0 0,.bool false,.int .i64 0,.string ⟨#[]⟩,.int .i64 0,.bool false,.int .i64 0,.string ⟨#[]⟩,.int .i64 0,.slice none 0 0] 87
 have Bu:=(Q2 W1.heap.size W1).alloc (Q1 _) (.cells #[.int .i64 0,.slice none 0 0,.bool false,.int .i64 0,.string ⟨#[]⟩,.int .i64 0,.bool false,.int .i64 0,.string ⟨#[]⟩,.int .i64 0,.slice none 0 0] 87)
 change VarC (W1.alloc (.cells #[.int .i64 0,.slice none 0 0,.bool false,.int .i64 0,.string ⟨#[]⟩,.int .i64 0,.bool false,.int .i64 0,.string ⟨#[]⟩,.int .i64 0,.slice none 0 0] 87)) _ _ at HQ
 have Cs:=Cc.out
 have Cy:(W1.alloc (.cells #[.int .i64 0,.slice none 0 0,.bool false,.int .i64 0,.string ⟨#[]⟩,.int .i64 0,.bool false,.int .i64 0,.string ⟨#[]⟩,.int .i64 0,.slice none 0 0] 87)).heap.size=W.heap.size+2:=by simp[Cs]
 obtain⟨W2,De⟩:∃W2,W1.alloc (.cells #[.int .i64 0,.slice none 0 0,.bool false,.int .i64 0,.string ⟨#[]⟩,.int .i64 0,.bool false,.int .i64 0,.string ⟨#[]⟩,.int .i64 0,.slice none 0 0] 87)=W2:=⟨_,rfl⟩
 rw[De] at HQ Bu Cy
 rw[Cs] at HQ
 have Be:=Hd (fun(w:World)(h:Below W2.heap.size W2 w)=>HQ.step h)
 have Ay:=Hd Bu
 have Bc:=Hd (fun(w:World)(h:Below W2.heap.size W2 w)=>show Below W.heap.size W w from Aa0 Br.out (Aa0 Bu h))
 have Bz:=Hd (fun(w:World)(h:Below W2.heap.size W2 w)=>Df.out w (Aa0 Bu h))
 obtain⟨v0,v1,-,-⟩:=Bz.out W2 (Q2 _ _)
 clear HQ Bu
 have Ax:=id_any cs (.slice A cs.length cc) key W2 ((HR.out.step Br.out).step Ay.out)
 by_cases hc:Ad9 cs key=0
 case neg=>
  have HO:=Hd (Do9 (file:=file) hc)
  have hd:=Ab5 (a:=((Ad9 cs key:Nat):Int)) (b:=0) (by omega)
  have Bd:=Hd Ax
  generalize Ad9 cs key=E at *
  generalize IDN cs key=Cd at *
  generalize hM:cs.length=M at *
  clear Ax hc hM hs
  go_enter Tryz.func62,Tryz.ntmps62
  go_wp2_with fail
  (with_reducible refine Bd.out.mono ?_);rintro e w2 ⟨rfl,Ag⟩
  have An:=Hd (Bc.out _ Ag)
  have Aa:=Hd (Be.out _ Ag)
  have r0:=Aa.out.c 0 _ rfl
  have r1:=Aa.out.c 1 _ rfl
  have r2:=Aa.out.c 2 _ rfl
  have r3:=Aa.out.c 3 _ rfl
  have r4:=Aa.out.c 4 _ rfl
  have r5:=Aa.out.c 5 _ rfl
  have r6:=Aa.out.c 6 _ rfl
  have r7:=Aa.out.c 7 _ rfl
  have r8:=Aa.out.c 8 _ rfl
  have r9:=Aa.out.c 9 _ rfl
  have Bt:=Aa.out.c 10 _ rfl
  have f0:=Aa.out.fr 0 (show 0<11 by decide)
  have f1:=Aa.out.fr 1 (show 1<11 by decide)
  have f2:=Aa.out.fr 2 (show 2<11 by decide)
  have f3:=Aa.out.fr 3 (show 3<11 by decide)
  have f4:=Aa.out.fr 4 (show 4<11 by decide)
  have f5:=Aa.out.fr 5 (show 5<11 by decide)
  have f6:=Aa.out.fr 6 (show 6<11 by decide)
  have f7:=Aa.out.fr 7 (show 7<11 by decide)
  have f8:=Aa.out.fr 8 (show 8<11 by decide)
  have f9:=Aa.out.fr 9 (show 9<11 by decide)
  have Bh:=Aa.out.fr 10 (show 10<11 by decide)
  have Ab:=Hd (((((((((((Aa.out.set (k:=0) (show 0<11 by decide) (.int .i64 0)).set (k:=1) (show 1<11 by decide) (.slice none 0 0)).set (k:=2) (show 2<11 by decide) (.bool false)).set (k:=3) (show 3<11 by decide) (.int .i64 0)).set (k:=4) (show 4<11 by decide) (.string ⟨#[]⟩)).set (k:=5) (show 5<11 by decide) (.int .i64 0)).set (k:=6) (show 6<11 by decide) (.bool false)).set (k:=7) (show 7<11 by decide) (.int .i64 0)).set (k:=8) (show 8<11 by decide) (.string ⟨#[]⟩)).set (k:=9) (show 9<11 by decide) (.int .i64 0)).set (k:=10) (show 10<11 by decide) (.slice none 0 0))
  have Ah:=Hd (((((((((((An.out.setCell (p:=⟨W.heap.size+1,0,none⟩) (Nat.le_succ _) (.int .i64 0)).setCell (p:=⟨W.heap.size+1,1,none⟩) (Nat.le_succ _) (.slice none 0 0)).setCell (p:=⟨W.heap.size+1,2,none⟩) (Nat.le_succ _) (.bool false)).setCell (p:=⟨W.heap.size+1,3,none⟩) (Nat.le_succ _) (.int .i64 0)).setCell (p:=⟨W.heap.size+1,4,none⟩) (Nat.le_succ _) (.string ⟨#[]⟩)).setCell (p:=⟨W.heap.size+1,5,none⟩) (Nat.le_succ _) (.int .i64 0)).setCell (p:=⟨W.heap.size+1,6,none⟩) (Nat.le_succ _) (.bool false)).setCell (p:=⟨W.heap.size+1,7,none⟩) (Nat.le_succ _) (.int .i64 0)).setCell (p:=⟨W.heap.size+1,8,none⟩) (Nat.le_succ _) (.string ⟨#[]⟩)).setCell (p:=⟨W.heap.size+1,9,none⟩) (Nat.le_succ _) (.int .i64 0)).setCell (p:=⟨W.heap.size+1,10,none⟩) (Nat.le_succ _) (.slice none 0 0))
  go_wp2_with fail
  have m0:=Ab.out.c 0 _ rfl
  have m1:=Ab.out.c 1 _ rfl
  have m2:=Ab.out.c 2 _ rfl
  have m3:=Ab.out.c 3 _ rfl
  have m4:=Ab.out.c 4 _ rfl
  have m5:=Ab.out.c 5 _ rfl
  have m6:=Ab.out.c 6 _ rfl
  have m7:=Ab.out.c 7 _ rfl
  have m8:=Ab.out.c 8 _ rfl
  have m9:=Ab.out.c 9 _ rfl
  have Aj:=Ab.out.c 10 _ rfl
  refine bodyPost_ret (v:=.tuple #[.agg #[.int .i64 0,.slice none 0 0,.bool false,.int .i64 0,.string ⟨#[]⟩,.int .i64 0,.bool false,.int .i64 0,.string ⟨#[]⟩,.int .i64 0,.slice none 0 0],.int .i64 (E:Nat)]) (by simp[results,Tryz.results62,go_sem,m0,m1,m2,m3,m4,m5,m6,m7,m8,m9,Aj]) rfl ?_
  exact OpnP.bad HO.out rfl Ah.out
 rw[hc] at Ax
 have Bd:=Hd Ax
 have Dl:=(Ad7 hc).2.1
 have Bb:=fun w=>Hd (De0 file w hs)
 by_cases hd0:Ap6 file=0
 case neg=>
  have HO:=Hd (Cq3 hc hd0)
  have hd:=Ab5 (a:=((Ap6 file:Nat):Int)) (b:=0) (by omega)
  rw[Ay7 rfl hd0] at Bb
  generalize Ap6 file=E at *
  generalize IDN cs key=Cd at *
  generalize hM:cs.length=M at *
  clear Ax hc hM hs hd0
  go_enter Tryz.func62,Tryz.ntmps62
  go_wp2_with fail
  (with_reducible refine Bd.out.mono ?_);rintro e w2 ⟨rfl,Ag⟩
  go_wp2_with fail
  (with_reducible refine(Bb _).out.mono ?_);rintro e w3 ⟨rfl,Ar⟩
  have An:=Hd (Bc.out _ (Aa0 Ag Ar))
  have Aa:=Hd (Be.out _ (Aa0 Ag Ar))
  have r0:=Aa.out.c 0 _ rfl
  have r1:=Aa.out.c 1 _ rfl
  have r2:=Aa.out.c 2 _ rfl
  have r3:=Aa.out.c 3 _ rfl
  have r4:=Aa.out.c 4 _ rfl
  have r5:=Aa.out.c 5 _ rfl
  have r6:=Aa.out.c 6 _ rfl
  have r7:=Aa.out.c 7 _ rfl
  have r8:=Aa.out.c 8 _ rfl
  have r9:=Aa.out.c 9 _ rfl
  have Bt:=Aa.out.c 10 _ rfl
  have f0:=Aa.out.fr 0 (show 0<11 by decide)
  have f1:=Aa.out.fr 1 (show 1<11 by decide)
  have f2:=Aa.out.fr 2 (show 2<11 by decide)
  have f3:=Aa.out.fr 3 (show 3<11 by decide)
  have f4:=Aa.out.fr 4 (show 4<11 by decide)
  have f5:=Aa.out.fr 5 (show 5<11 by decide)
  have f6:=Aa.out.fr 6 (show 6<11 by decide)
  have f7:=Aa.out.fr 7 (show 7<11 by decide)
  have f8:=Aa.out.fr 8 (show 8<11 by decide)
  have f9:=Aa.out.fr 9 (show 9<11 by decide)
  have Bh:=Aa.out.fr 10 (show 10<11 by decide)
  have Ab:=Hd (((((((((((Aa.out.set (k:=0) (show 0<11 by decide) (.int .i64 0)).set (k:=1) (show 1<11 by decide) (.slice none 0 0)).set (k:=2) (show 2<11 by decide) (.bool false)).set (k:=3) (show 3<11 by decide) (.int .i64 0)).set (k:=4) (show 4<11 by decide) (.string ⟨#[]⟩)).set (k:=5) (show 5<11 by decide) (.int .i64 0)).set (k:=6) (show 6<11 by decide) (.bool false)).set (k:=7) (show 7<11 by decide) (.int .i64 0)).set (k:=8) (show 8<11 by decide) (.string ⟨#[]⟩)).set (k:=9) (show 9<11 by decide) (.int .i64 0)).set (k:=10) (show 10<11 by decide) (.slice none 0 0))
  have Ah:=Hd (((((((((((An.out.setCell (p:=⟨W.heap.size+1,0,none⟩) (Nat.le_succ _) (.int .i64 0)).setCell (p:=⟨W.heap.size+1,1,none⟩) (Nat.le_succ _) (.slice none 0 0)).setCell (p:=⟨W.heap.size+1,2,none⟩) (Nat.le_succ _) (.bool false)).setCell (p:=⟨W.heap.size+1,3,none⟩) (Nat.le_succ _) (.int .i64 0)).setCell (p:=⟨W.heap.size+1,4,none⟩) (Nat.le_succ _) (.string ⟨#[]⟩)).setCell (p:=⟨W.heap.size+1,5,none⟩) (Nat.le_succ _) (.int .i64 0)).setCell (p:=⟨W.heap.size+1,6,none⟩) (Nat.le_succ _) (.bool false)).setCell (p:=⟨W.heap.size+1,7,none⟩) (Nat.le_succ _) (.int .i64 0)).setCell (p:=⟨W.heap.size+1,8,none⟩) (Nat.le_succ _) (.string ⟨#[]⟩)).setCell (p:=⟨W.heap.size+1,9,none⟩) (Nat.le_succ _) (.int .i64 0)).setCell (p:=⟨W.heap.size+1,10,none⟩) (Nat.le_succ _) (.slice none 0 0))
  go_wp2_with fail
  have m0:=Ab.out.c 0 _ rfl
  have m1:=Ab.out.c 1 _ rfl
  have m2:=Ab.out.c 2 _ rfl
  have m3:=Ab.out.c 3 _ rfl
  have m4:=Ab.out.c 4 _ rfl
  have m5:=Ab.out.c 5 _ rfl
  have m6:=Ab.out.c 6 _ rfl
  have m7:=Ab.out.c 7 _ rfl
  have m8:=Ab.out.c 8 _ rfl
  have m9:=Ab.out.c 9 _ rfl
  have Aj:=Ab.out.c 10 _ rfl
  refine bodyPost_ret (v:=.tuple #[.agg #[.int .i64 0,.slice none 0 0,.bool false,.int .i64 0,.string ⟨#[]⟩,.int .i64 0,.bool false,.int .i64 0,.string ⟨#[]⟩,.int .i64 0,.slice none 0 0],.int .i64 (E:Nat)]) (by simp[results,Tryz.results62,go_sem,m0,m1,m2,m3,m4,m5,m6,m7,m8,m9,Aj]) rfl ?_
  exact OpnP.bad HO.out rfl Ah.out
 rw[Dx4 hd0] at Bb
 obtain⟨d1,d2,d3,d4⟩:=div_ok hd0
 have Bx:=fun w=>Hd (Bj2 (At9 file) w (by omega))
 by_cases hi:Ac6 (At9 file) 0=IDN cs key
 case neg=>
  have HO:=Hd (Cq2 hc hd0 hi)
  have hd:=Ab5 (a:=((Ac6 (At9 file) 0:Nat):Int)) (b:=((IDN cs key:Nat):Int)) (by omega)
  have Dp:(Ac6 (At9 file) 0 !=IDN cs key)=true:=by simp[hi]
  generalize Ac6 (At9 file) 0=WN at *
  generalize At9 file=FT at *
  generalize file.extract 4 (Be7 file)=DT at *
  generalize IDN cs key=Cd at *
  generalize hM:cs.length=M at *
  clear Ax hc hM hs hd0 d1 d2 d3 d4 hi
  go_enter Tryz.func62,Tryz.ntmps62
  go_wp2_with fail
  (with_reducible refine Bd.out.mono ?_);rintro e w2 ⟨rfl,Ag⟩
  go_wp2_with fail
  (with_reducible refine(Bb _).out.mono ?_);rintro e w3 ⟨rfl,Ar⟩
  go_wp2_with fail
  (with_reducible refine(Bx _).out.mono ?_);rintro e w4 ⟨rfl,Bl⟩
  have An:=Hd (Bc.out _ (Aa0 Ag (Aa0 Ar Bl)))
  have Aa:=Hd (Be.out _ (Aa0 Ag (Aa0 Ar Bl)))
  have r0:=Aa.out.c 0 _ rfl
  have r1:=Aa.out.c 1 _ rfl
  have r2:=Aa.out.c 2 _ rfl
  have r3:=Aa.out.c 3 _ rfl
  have r4:=Aa.out.c 4 _ rfl
  have r5:=Aa.out.c 5 _ rfl
  have r6:=Aa.out.c 6 _ rfl
  have r7:=Aa.out.c 7 _ rfl
  have r8:=Aa.out.c 8 _ rfl
  have r9:=Aa.out.c 9 _ rfl
  have Bt:=Aa.out.c 10 _ rfl
  have f0:=Aa.out.fr 0 (show 0<11 by decide)
  have f1:=Aa.out.fr 1 (show 1<11 by decide)
  have f2:=Aa.out.fr 2 (show 2<11 by decide)
  have f3:=Aa.out.fr 3 (show 3<11 by decide)
  have f4:=Aa.out.fr 4 (show 4<11 by decide)
  have f5:=Aa.out.fr 5 (show 5<11 by decide)
  have f6:=Aa.out.fr 6 (show 6<11 by decide)
  have f7:=Aa.out.fr 7 (show 7<11 by decide)
  have f8:=Aa.out.fr 8 (show 8<11 by decide)
  have f9:=Aa.out.fr 9 (show 9<11 by decide)
  have Bh:=Aa.out.fr 10 (show 10<11 by decide)
  have Ab:=Hd (((((((((((Aa.out.set (k:=0) (show 0<11 by decide) (.int .i64 0)).set (k:=1) (show 1<11 by decide) (.slice none 0 0)).set (k:=2) (show 2<11 by decide) (.bool false)).set (k:=3) (show 3<11 by decide) (.int .i64 0)).set (k:=4) (show 4<11 by decide) (.string ⟨#[]⟩)).set (k:=5) (show 5<11 by decide) (.int .i64 0)).set (k:=6) (show 6<11 by decide) (.bool false)).set (k:=7) (show 7<11 by decide) (.int .i64 0)).set (k:=8) (show 8<11 by decide) (.string ⟨#[]⟩)).set (k:=9) (show 9<11 by decide) (.int .i64 0)).set (k:=10) (show 10<11 by decide) (.slice none 0 0))
  have Ah:=Hd (((((((((((An.out.setCell (p:=⟨W.heap.size+1,0,none⟩) (Nat.le_succ _) (.int .i64 0)).setCell (p:=⟨W.heap.size+1,1,none⟩) (Nat.le_succ _) (.slice none 0 0)).setCell (p:=⟨W.heap.size+1,2,none⟩) (Nat.le_succ _) (.bool false)).setCell (p:=⟨W.heap.size+1,3,none⟩) (Nat.le_succ _) (.int .i64 0)).setCell (p:=⟨W.heap.size+1,4,none⟩) (Nat.le_succ _) (.string ⟨#[]⟩)).setCell (p:=⟨W.heap.size+1,5,none⟩) (Nat.le_succ _) (.int .i64 0)).setCell (p:=⟨W.heap.size+1,6,none⟩) (Nat.le_succ _) (.bool false)).setCell (p:=⟨W.heap.size+1,7,none⟩) (Nat.le_succ _) (.int .i64 0)).setCell (p:=⟨W.heap.size+1,8,none⟩) (Nat.le_succ _) (.string ⟨#[]⟩)).setCell (p:=⟨W.heap.size+1,9,none⟩) (Nat.le_succ _) (.int .i64 0)).setCell (p:=⟨W.heap.size+1,10,none⟩) (Nat.le_succ _) (.slice none 0 0))
  go_wp2_with fail
  have m0:=Ab.out.c 0 _ rfl
  have m1:=Ab.out.c 1 _ rfl
  have m2:=Ab.out.c 2 _ rfl
  have m3:=Ab.out.c 3 _ rfl
  have m4:=Ab.out.c 4 _ rfl
  have m5:=Ab.out.c 5 _ rfl
  have m6:=Ab.out.c 6 _ rfl
  have m7:=Ab.out.c 7 _ rfl
  have m8:=Ab.out.c 8 _ rfl
  have m9:=Ab.out.c 9 _ rfl
  have Aj:=Ab.out.c 10 _ rfl
  refine bodyPost_ret (v:=.tuple #[.agg #[.int .i64 0,.slice none 0 0,.bool false,.int .i64 0,.string ⟨#[]⟩,.int .i64 0,.bool false,.int .i64 0,.string ⟨#[]⟩,.int .i64 0,.slice none 0 0],.int .i64 1]) (by simp[results,Tryz.results62,go_sem,m0,m1,m2,m3,m4,m5,m6,m7,m8,m9,Aj]) rfl ?_
  exact OpnP.bad HO.out rfl Ah.out
 rw[hi] at Bx
 have Bv:=Hd (Es9 hc hd0 hi)
 have Au:=Hd (fun o=>Do8 (o:=o) hc hd0 hi)
 have Cq:=Hd (fun G D=>Da1 (cs:=cs) (key:=key) (G:=G) (D:=D))
 have Cj:=Hd (fun G D o=>Dn4 (cs:=cs) (key:=key) (G:=G) (D:=D) (o:=o))
 have Cp:=Hd (fun G D o=>Ef9 (cs:=cs) (key:=key) (G:=G) (D:=D) (o:=o))
 have Cz:=Hd (fun o=>Fe9 (file:=file) (o:=o) d2)
 have Bw:(file.extract 4 (Be7 file)).size=Be7 file-4:=by rw[ByteArray.size_extract];omega
 obtain⟨N,hN⟩:∃N,(At9 file).size=N:=⟨_,rfl⟩
 rw[hN] at Bv Au d4
 have Cm:((At9 file).extract 4 N).size<=140737488351232:=by rw[ByteArray.size_extract,hN];omega
 rw[←Bw] at Bv Au
 have Cv:=Hd (fun m D G o=>Ct3 (o:=o) (m:=m) (D:=D) (G:=G))
 have Cu:=Hd Bw
 have Dm:(4:Int)<=(N:Int):=by omega
 have Dj:4<=N:=by omega
 generalize Be7 file=FA at *
 generalize Di:At9 file=FT at *
 have Cw:=Hd (show(file.extract 4 FA).size<=140737488351232 by rw[Bw];omega)
 have By:=Hd (fun(w:World)(h:Below W2.heap.size W2 w)=>Dc4 cs (.slice A cs.length cc) key (FT.extract 4 N) (file.extract 4 FA) w (((HR.out.step Br.out).step Ay.out).step h) Dl Cm Cw.out)
 have Ck:=Hd (fun(w:World)(h:Below W2.heap.size W2 w)(zv:Value)(f:Inf)(hz:RdK zonL w w.heap.size zv f.zs)(hl:f.zs.length<=cs.length)(hr:f.rows<=1024)=>Di1 cs (.slice A cs.length cc) key zv f w (((HR.out.step Br.out).step Ay.out).step h) hz hc hl hr)
 generalize Dk:file.extract 4 FA=DT at *
 generalize Dn:FT.extract 4 N=G at *
 generalize IDN cs key=Cd at *
 generalize hM:cs.length=M at *
 clear Ax hc hM hs hd0 d1 d2 d3 d4 hi Di Dk Bw Cm
 go_enter Tryz.func62,Tryz.ntmps62
 go_wp2_with fail
 (with_reducible refine Bd.out.mono ?_);rintro e w2 ⟨rfl,Ag⟩
 go_wp2_with fail
 (with_reducible refine(Bb _).out.mono ?_);rintro e w3 ⟨rfl,Ar⟩
 go_wp2_with fail
 (with_reducible refine(Bx _).out.mono ?_);rintro e w4 ⟨rfl,Bl⟩
 have Ba:=Hd (Aa0 Ag (Aa0 Ar Bl))
 obtain⟨v0,v1,-,-⟩:=Bz.out _ Ba.out
 clear Ag Ar Bl Bd Bb Bx
 have Ds:=Ba.out.size
 have Dq:W.heap.size<w4.heap.size:=by omega
 have Ce:=Hd (VarC.new w4 [.int .i64 0,.slice none 0 0,.bool false,.int .i64 0,.string ⟨#[]⟩,.int .i64 0,.bool false,.int .i64 0,.string ⟨#[]⟩,.int .i64 0,.slice none 0 0] 87)
 change Hid (VarC (w4.alloc (.cells #[.int .i64 0,.slice none 0 0,.bool false,.int .i64 0,.string ⟨#[]⟩,.int .i64 0,.bool false,.int .i64 0,.string ⟨#[]⟩,.int .i64 0,.slice none 0 0] 87)) w4.heap.size [.int .i64 0,.slice none 0 0,.bool false,.int .i64 0,.string ⟨#[]⟩,.int .i64 0,.bool false,.int .i64 0,.string ⟨#[]⟩,.int .i64 0,.slice none 0 0]) at Ce
 have Cr:=Hd (By.out w4.drew (Ba.out.drew))
 have Da:=Hd ((Q2 w4.heap.size w4).alloc (Q1 _) (.cells #[.int .i64 0,.slice none 0 0,.bool false,.int .i64 0,.string ⟨#[]⟩,.int .i64 0,.bool false,.int .i64 0,.string ⟨#[]⟩,.int .i64 0,.slice none 0 0] 87))
 have Aw:=Hd (show Below W2.heap.size W2 (w4.alloc (.cells #[.int .i64 0,.slice none 0 0,.bool false,.int .i64 0,.string ⟨#[]⟩,.int .i64 0,.bool false,.int .i64 0,.string ⟨#[]⟩,.int .i64 0,.slice none 0 0] 87)).drew from(Ba.out.alloc Ba.out.size _).drew)
 have Ci:=Hd (By.out (w4.alloc (.cells #[.int .i64 0,.slice none 0 0,.bool false,.int .i64 0,.string ⟨#[]⟩,.int .i64 0,.bool false,.int .i64 0,.string ⟨#[]⟩,.int .i64 0,.slice none 0 0] 87)).drew Aw.out)
 have Cn:(w4.alloc (.cells #[.int .i64 0,.slice none 0 0,.bool false,.int .i64 0,.string ⟨#[]⟩,.int .i64 0,.bool false,.int .i64 0,.string ⟨#[]⟩,.int .i64 0,.slice none 0 0] 87)).drew.heap.size=w4.heap.size+1:=by show(w4.alloc _).heap.size=_;simp
 have Bm:=Hd Cn
 clear Cn By
 obtain⟨d,hd⟩:∃d,DT.size=d:=⟨_,rfl⟩
 have HD:=Hd hd
 go_wp2_with fail
 apply Di8 (fun b Y zA zn zc cA cn Ac f ks ok=>VarC Y b (Bp5 (.slice zA zn zc) (.slice cA cn Ac) f)/\w4.heap.size<=b/\Below W2.heap.size W2 Y/\(ok=true->Ai2 M G DT.size=some ⟨f,ks⟩/\f.zs.length<=M/\f.rows<=1024/\OwnK zonL 59 Y w4.heap.size (.slice zA zn zc) f.zs/\OwnV Value.string 9 Y w4.heap.size (.slice cA cn Ac) (Aq0 DT ks))/\(ok=false->Ai2 M G DT.size=none))
 focus
  intro Bs
  have HT:=Hd Bs
  clear Bs
  go_region_law(first
   | (go_simp;go_at_call 105;(with_reducible refine Cr.out.mono ?_);rintro e w5 ⟨zv,cv,f,ks,ok,rfl,Bn,⟨⟨zA,zn,zc,rfl⟩,⟨cA,cn,Ac,rfl⟩⟩,Al,Ao⟩;have HB5:=Hd (show Below W2.heap.size W2 w5 from Aa0 (Ba.out.drew) Bn);have HOK:=Hd Al;have HNO5:=Hd Ao;clear Al Ao;unfold Dy6)
   | (go_simp;go_at_call 105;(with_reducible refine Ci.out.mono ?_);rintro e w5 ⟨zv,cv,f,ks,ok,rfl,Bn,⟨⟨zA,zn,zc,rfl⟩,⟨cA,cn,Ac,rfl⟩⟩,Al,Ao⟩;have HB5:=Hd (show Below W2.heap.size W2 w5 from Aa0 Aw.out Bn);have HOK:=Hd Al;have HNO5:=Hd Ao;have HVW5:=Hd (Ce.out.step ((Q2 _ _).drew.trans Bn));have z0:=HVW5.out.c 0 _ rfl;have g0:=HVW5.out.fr 0 (show 0<11 by decide);have z1:=HVW5.out.c 1 _ rfl;have g1:=HVW5.out.fr 1 (show 1<11 by decide);have z2:=HVW5.out.c 2 _ rfl;have g2:=HVW5.out.fr 2 (show 2<11 by decide);have z3:=HVW5.out.c 3 _ rfl;have g3:=HVW5.out.fr 3 (show 3<11 by decide);have z4:=HVW5.out.c 4 _ rfl;have g4:=HVW5.out.fr 4 (show 4<11 by decide);have z5:=HVW5.out.c 5 _ rfl;have g5:=HVW5.out.fr 5 (show 5<11 by decide);have z6:=HVW5.out.c 6 _ rfl;have g6:=HVW5.out.fr 6 (show 6<11 by decide);have z7:=HVW5.out.c 7 _ rfl;have g7:=HVW5.out.fr 7 (show 7<11 by decide);have z8:=HVW5.out.c 8 _ rfl;have g8:=HVW5.out.fr 8 (show 8<11 by decide);have z9:=HVW5.out.c 9 _ rfl;have g9:=HVW5.out.fr 9 (show 9<11 by decide);have z10:=HVW5.out.c 10 _ rfl;have g10:=HVW5.out.fr 10 (show 10<11 by decide);clear Al Ao;unfold Dy6)
   | fail)
  all_goals
   first
   | (have Az:=Hd (HVW5.out.putC [.int .i64 (f.rows:Nat),.slice zA zn zc,.bool f.lo.nu,.int .i64 f.lo.n,.string f.lo.s,.int .i64 (f.lq:Nat),.bool f.hi.nu,.int .i64 f.hi.n,.string f.hi.s,.int .i64 (f.hq:Nat),.slice cA cn Ac] 0 (Q1 11))
      have Bo:=Hd (Ag2 (g:=w4.heap.size) [.int .i64 (f.rows:Nat),.slice zA zn zc,.bool f.lo.nu,.int .i64 f.lo.n,.string f.lo.s,.int .i64 (f.lq:Nat),.bool f.hi.nu,.int .i64 f.hi.n,.string f.hi.s,.int .i64 (f.hq:Nat),.slice cA cn Ac] 0 HB5.out (by omega))
      have Bq:=Hd (fun(h:ok=true)=>show Ai2 M G DT.size=some ⟨f,ks⟩/\f.zs.length<=M/\f.rows<=1024/\OwnK zonL 59 (putC w5 w4.heap.size 0 [.int .i64 (f.rows:Nat),.slice zA zn zc,.bool f.lo.nu,.int .i64 f.lo.n,.string f.lo.s,.int .i64 (f.lq:Nat),.bool f.hi.nu,.int .i64 f.hi.n,.string f.hi.s,.int .i64 (f.hq:Nat),.slice cA cn Ac]) w4.heap.size (.slice zA zn zc) f.zs/\OwnV Value.string 9 (putC w5 w4.heap.size 0 [.int .i64 (f.rows:Nat),.slice zA zn zc,.bool f.lo.nu,.int .i64 f.lo.n,.string f.lo.s,.int .i64 (f.lq:Nat),.bool f.hi.nu,.int .i64 f.hi.n,.string f.hi.s,.int .i64 (f.hq:Nat),.slice cA cn Ac]) w4.heap.size (.slice cA cn Ac) (Aq0 DT ks) from
       let ⟨a,b,c,d,e⟩:=HOK.out h
       ⟨a,b,c,OwnK.lower (Af2 (g:=w4.heap.size) (by rw[Bm.out];exact Nat.lt_succ_self _) [.int .i64 (f.rows:Nat),.slice zA zn zc,.bool f.lo.nu,.int .i64 f.lo.n,.string f.lo.s,.int .i64 (f.lq:Nat),.bool f.hi.nu,.int .i64 f.hi.n,.string f.hi.s,.int .i64 (f.hq:Nat),.slice cA cn Ac] 0 d) (by rw[Bm.out];exact Nat.le_succ _),OwnV.lower (Af2 (g:=w4.heap.size) (by rw[Bm.out];exact Nat.lt_succ_self _) [.int .i64 (f.rows:Nat),.slice zA zn zc,.bool f.lo.nu,.int .i64 f.lo.n,.string f.lo.s,.int .i64 (f.lq:Nat),.bool f.hi.nu,.int .i64 f.hi.n,.string f.hi.s,.int .i64 (f.hq:Nat),.slice cA cn Ac] 0 e) (by rw[Bm.out];exact Nat.le_succ _)⟩)
      obtain⟨Y,hY⟩:∃Y,putC w5 w4.heap.size 0 [.int .i64 (f.rows:Nat),.slice zA zn zc,.bool f.lo.nu,.int .i64 f.lo.n,.string f.lo.s,.int .i64 (f.lq:Nat),.bool f.hi.nu,.int .i64 f.hi.n,.string f.hi.s,.int .i64 (f.hq:Nat),.slice cA cn Ac]=Y:=⟨_,rfl⟩
      rw[hY] at Az Bo Bq
      have Cx:(((((((((((w5.setCell ⟨w4.heap.size,0,none⟩ (.int .i64 (f.rows:Nat))).setCell ⟨w4.heap.size,1,none⟩ (.slice zA zn zc)).setCell ⟨w4.heap.size,2,none⟩ (.bool f.lo.nu)).setCell ⟨w4.heap.size,3,none⟩ (.int .i64 f.lo.n)).setCell ⟨w4.heap.size,4,none⟩ (.string f.lo.s)).setCell ⟨w4.heap.size,5,none⟩ (.int .i64 (f.lq:Nat))).setCell ⟨w4.heap.size,6,none⟩ (.bool f.hi.nu)).setCell ⟨w4.heap.size,7,none⟩ (.int .i64 f.hi.n)).setCell ⟨w4.heap.size,8,none⟩ (.string f.hi.s)).setCell ⟨w4.heap.size,9,none⟩ (.int .i64 (f.hq:Nat))).setCell ⟨w4.heap.size,10,none⟩ (.slice cA cn Ac))=Y:=hY
      rw[Cx]
      have Ai:w4.heap.size<=w4.heap.size:=Q1 _
      obtain⟨b5,Bj⟩:∃b5,w4.heap.size=b5:=⟨_,rfl⟩
      have Dg:=Hd (show VarC Y w4.heap.size (Bp5 (.slice zA zn zc) (.slice cA cn Ac) f) from Az.out)
      exact HT.out _ _ _ _ _ _ _ _ _ _ _ ⟨Dg.out,Ai,Bo.out,Bq.out,HNO5.out⟩)
   | (have Az:=Hd (show VarC (w5.alloc (.cells #[.int .i64 (f.rows:Nat),.slice zA zn zc,.bool f.lo.nu,.int .i64 f.lo.n,.string f.lo.s,.int .i64 (f.lq:Nat),.bool f.hi.nu,.int .i64 f.hi.n,.string f.hi.s,.int .i64 (f.hq:Nat),.slice cA cn Ac] 87)) w5.heap.size (Bp5 (.slice zA zn zc) (.slice cA cn Ac) f) from VarC.new w5 [.int .i64 (f.rows:Nat),.slice zA zn zc,.bool f.lo.nu,.int .i64 f.lo.n,.string f.lo.s,.int .i64 (f.lq:Nat),.bool f.hi.nu,.int .i64 f.hi.n,.string f.hi.s,.int .i64 (f.hq:Nat),.slice cA cn Ac] 87)
      have Bo:=Hd (HB5.out.alloc HB5.out.size (.cells #[.int .i64 (f.rows:Nat),.slice zA zn zc,.bool f.lo.nu,.int .i64 f.lo.n,.string f.lo.s,.int .i64 (f.lq:Nat),.bool f.hi.nu,.int .i64 f.hi.n,.string f.hi.s,.int .i64 (f.hq:Nat),.slice cA cn Ac] 87))
      have Bq:=Hd (fun(h:ok=true)=>show Ai2 M G DT.size=some ⟨f,ks⟩/\f.zs.length<=M/\f.rows<=1024/\OwnK zonL 59 (w5.alloc (.cells #[.int .i64 (f.rows:Nat),.slice zA zn zc,.bool f.lo.nu,.int .i64 f.lo.n,.string f.lo.s,.int .i64 (f.lq:Nat),.bool f.hi.nu,.int .i64 f.hi.n,.string f.hi.s,.int .i64 (f.hq:Nat),.slice cA cn Ac] 87)) w4.heap.size (.slice zA zn zc) f.zs/\OwnV Value.string 9 (w5.alloc (.cells #[.int .i64 (f.rows:Nat),.slice zA zn zc,.bool f.lo.nu,.int .i64 f.lo.n,.string f.lo.s,.int .i64 (f.lq:Nat),.bool f.hi.nu,.int .i64 f.hi.n,.string f.hi.s,.int .i64 (f.hq:Nat),.slice cA cn Ac] 87)) w4.heap.size (.slice cA cn Ac) (Aq0 DT ks) from
       let ⟨a,b,c,d,e⟩:=HOK.out h
       ⟨a,b,c,OwnK.alloc d _,OwnV.alloc e _⟩)
      have Ai:w4.heap.size<=w5.heap.size:=Bn.size
      obtain⟨Y,hY⟩:∃Y,w5.alloc (.cells #[.int .i64 (f.rows:Nat),.slice zA zn zc,.bool f.lo.nu,.int .i64 f.lo.n,.string f.lo.s,.int .i64 (f.lq:Nat),.bool f.hi.nu,.int .i64 f.hi.n,.string f.hi.s,.int .i64 (f.hq:Nat),.slice cA cn Ac] 87)=Y:=⟨_,rfl⟩
      rw[hY] at Az Bo Bq⊢
      obtain⟨b5,Bj⟩:∃b5,w5.heap.size=b5:=⟨_,rfl⟩
      rw[Bj] at Az Ai⊢
      exact HT.out _ _ _ _ _ _ _ _ _ _ _ ⟨Az.out,Ai,Bo.out,Bq.out,HNO5.out⟩)
 intro b5 W6 zA zn zc cA cn Ac f ks ok ⟨hI,Ai,Dd,Al,Ao⟩
 have As:=Hd Dd
 clear Ce Cr Da Aw Ci Bm
 obtain⟨Ad,Cf,⟨lb,ln,lt⟩,Ap,⟨qb,qn,qt⟩,Aq⟩:=f
 unfold Bp5 at hI
 simp only at hI Al⊢
 have Bf:=Hd (show W.heap.size+2<=w4.heap.size by omega)
 cases ok with
 | false=>
   have HO:=Hd (Bv.out (Cq.out _ _ (Ao rfl)))
   clear Al Ao hI
   have An:=Hd (Bc.out _ As.out)
   have Aa:=Hd (Be.out _ As.out)
   have r0:=Aa.out.c 0 _ rfl
   have r1:=Aa.out.c 1 _ rfl
   have r2:=Aa.out.c 2 _ rfl
   have r3:=Aa.out.c 3 _ rfl
   have r4:=Aa.out.c 4 _ rfl
   have r5:=Aa.out.c 5 _ rfl
   have r6:=Aa.out.c 6 _ rfl
   have r7:=Aa.out.c 7 _ rfl
   have r8:=Aa.out.c 8 _ rfl
   have r9:=Aa.out.c 9 _ rfl
   have Bt:=Aa.out.c 10 _ rfl
   have f0:=Aa.out.fr 0 (show 0<11 by decide)
   have f1:=Aa.out.fr 1 (show 1<11 by decide)
   have f2:=Aa.out.fr 2 (show 2<11 by decide)
   have f3:=Aa.out.fr 3 (show 3<11 by decide)
   have f4:=Aa.out.fr 4 (show 4<11 by decide)
   have f5:=Aa.out.fr 5 (show 5<11 by decide)
   have f6:=Aa.out.fr 6 (show 6<11 by decide)
   have f7:=Aa.out.fr 7 (show 7<11 by decide)
   have f8:=Aa.out.fr 8 (show 8<11 by decide)
   have f9:=Aa.out.fr 9 (show 9<11 by decide)
   have Bh:=Aa.out.fr 10 (show 10<11 by decide)
   have Ab:=Hd (((((((((((Aa.out.set (k:=0) (show 0<11 by decide) (.int .i64 0)).set (k:=1) (show 1<11 by decide) (.slice none 0 0)).set (k:=2) (show 2<11 by decide) (.bool false)).set (k:=3) (show 3<11 by decide) (.int .i64 0)).set (k:=4) (show 4<11 by decide) (.string ⟨#[]⟩)).set (k:=5) (show 5<11 by decide) (.int .i64 0)).set (k:=6) (show 6<11 by decide) (.bool false)).set (k:=7) (show 7<11 by decide) (.int .i64 0)).set (k:=8) (show 8<11 by decide) (.string ⟨#[]⟩)).set (k:=9) (show 9<11 by decide) (.int .i64 0)).set (k:=10) (show 10<11 by decide) (.slice none 0 0))
   have Ah:=Hd (((((((((((An.out.setCell (p:=⟨W.heap.size+1,0,none⟩) (Nat.le_succ _) (.int .i64 0)).setCell (p:=⟨W.heap.size+1,1,none⟩) (Nat.le_succ _) (.slice none 0 0)).setCell (p:=⟨W.heap.size+1,2,none⟩) (Nat.le_succ _) (.bool false)).setCell (p:=⟨W.heap.size+1,3,none⟩) (Nat.le_succ _) (.int .i64 0)).setCell (p:=⟨W.heap.size+1,4,none⟩) (Nat.le_succ _) (.string ⟨#[]⟩)).setCell (p:=⟨W.heap.size+1,5,none⟩) (Nat.le_succ _) (.int .i64 0)).setCell (p:=⟨W.heap.size+1,6,none⟩) (Nat.le_succ _) (.bool false)).setCell (p:=⟨W.heap.size+1,7,none⟩) (Nat.le_succ _) (.int .i64 0)).setCell (p:=⟨W.heap.size+1,8,none⟩) (Nat.le_succ _) (.string ⟨#[]⟩)).setCell (p:=⟨W.heap.size+1,9,none⟩) (Nat.le_succ _) (.int .i64 0)).setCell (p:=⟨W.heap.size+1,10,none⟩) (Nat.le_succ _) (.slice none 0 0))
   go_wp2_with fail
   have m0:=Ab.out.c 0 _ rfl
   have m1:=Ab.out.c 1 _ rfl
   have m2:=Ab.out.c 2 _ rfl
   have m3:=Ab.out.c 3 _ rfl
   have m4:=Ab.out.c 4 _ rfl
   have m5:=Ab.out.c 5 _ rfl
   have m6:=Ab.out.c 6 _ rfl
   have m7:=Ab.out.c 7 _ rfl
   have m8:=Ab.out.c 8 _ rfl
   have m9:=Ab.out.c 9 _ rfl
   have Aj:=Ab.out.c 10 _ rfl
   refine bodyPost_ret (v:=.tuple #[.agg #[.int .i64 0,.slice none 0 0,.bool false,.int .i64 0,.string ⟨#[]⟩,.int .i64 0,.bool false,.int .i64 0,.string ⟨#[]⟩,.int .i64 0,.slice none 0 0],.int .i64 2]) (by simp[results,Tryz.results62,go_sem,m0,m1,m2,m3,m4,m5,m6,m7,m8,m9,Aj]) rfl ?_
   exact OpnP.bad HO.out rfl Ah.out
 | true=>
   obtain⟨hf,Co,Cl,hz,Ch⟩:=Al rfl
   have HF:=Hd hf
   have Ct:=Hd hz
   have Dc:=Hd Ch
   have Bi:=Ck.out W6 As.out (.slice zA zn zc) ⟨Ad,Cf,⟨lb,ln,lt⟩,Ap,⟨qb,qn,qt⟩,Aq⟩ (OwnK.read Ct.out) Co Cl
   unfold Dg4 at Bi
   simp only at Bi
   have Bp:=Cj.out _ _ _ hf
   have Bk:=Cp.out _ _ _ hf
   simp only at Bp Bk
   generalize okI cs key ⟨Ad,Cf,⟨lb,ln,lt⟩,Ap,⟨qb,qn,qt⟩,Aq⟩=ok at Bi Bp Bk
   have Bg:=Hd Bi
   have HI:=Hd hI
   have i0:=hI.c 0 _ rfl
   have i1:=hI.c 1 _ rfl
   have i2:=hI.c 2 _ rfl
   have i3:=hI.c 3 _ rfl
   have i4:=hI.c 4 _ rfl
   have i5:=hI.c 5 _ rfl
   have i6:=hI.c 6 _ rfl
   have i7:=hI.c 7 _ rfl
   have i8:=hI.c 8 _ rfl
   have i9:=hI.c 9 _ rfl
   obtain⟨v0,v1,-,-⟩:=Bz.out _ As.out
   clear Al Ao hI hf Co Cl hz Ch Bi Cq Cj Cp Ck
   cases ok with
   | false=>
     have HO:=Hd (Bv.out (Bp rfl))
     clear Bp Bk
     go_wp2_with fail
     (with_reducible refine Bg.out.mono ?_);rintro e w7 ⟨rfl,Ak⟩
     have An:=Hd (Bc.out _ (Aa0 As.out Ak))
     have Aa:=Hd (Be.out _ (Aa0 As.out Ak))
     clear i0 i1 i2 i3 i4 i5 i6 i7 i8 i9
     have r0:=Aa.out.c 0 _ rfl
     have r1:=Aa.out.c 1 _ rfl
     have r2:=Aa.out.c 2 _ rfl
     have r3:=Aa.out.c 3 _ rfl
     have r4:=Aa.out.c 4 _ rfl
     have r5:=Aa.out.c 5 _ rfl
     have r6:=Aa.out.c 6 _ rfl
     have r7:=Aa.out.c 7 _ rfl
     have r8:=Aa.out.c 8 _ rfl
     have r9:=Aa.out.c 9 _ rfl
     have Bt:=Aa.out.c 10 _ rfl
     have f0:=Aa.out.fr 0 (show 0<11 by decide)
     have f1:=Aa.out.fr 1 (show 1<11 by decide)
     have f2:=Aa.out.fr 2 (show 2<11 by decide)
     have f3:=Aa.out.fr 3 (show 3<11 by decide)
     have f4:=Aa.out.fr 4 (show 4<11 by decide)
     have f5:=Aa.out.fr 5 (show 5<11 by decide)
     have f6:=Aa.out.fr 6 (show 6<11 by decide)
     have f7:=Aa.out.fr 7 (show 7<11 by decide)
     have f8:=Aa.out.fr 8 (show 8<11 by decide)
     have f9:=Aa.out.fr 9 (show 9<11 by decide)
     have Bh:=Aa.out.fr 10 (show 10<11 by decide)
     have Ab:=Hd (((((((((((Aa.out.set (k:=0) (show 0<11 by decide) (.int .i64 0)).set (k:=1) (show 1<11 by decide) (.slice none 0 0)).set (k:=2) (show 2<11 by decide) (.bool false)).set (k:=3) (show 3<11 by decide) (.int .i64 0)).set (k:=4) (show 4<11 by decide) (.string ⟨#[]⟩)).set (k:=5) (show 5<11 by decide) (.int .i64 0)).set (k:=6) (show 6<11 by decide) (.bool false)).set (k:=7) (show 7<11 by decide) (.int .i64 0)).set (k:=8) (show 8<11 by decide) (.string ⟨#[]⟩)).set (k:=9) (show 9<11 by decide) (.int .i64 0)).set (k:=10) (show 10<11 by decide) (.slice none 0 0))
     have Ah:=Hd (((((((((((An.out.setCell (p:=⟨W.heap.size+1,0,none⟩) (Nat.le_succ _) (.int .i64 0)).setCell (p:=⟨W.heap.size+1,1,none⟩) (Nat.le_succ _) (.slice none 0 0)).setCell (p:=⟨W.heap.size+1,2,none⟩) (Nat.le_succ _) (.bool false)).setCell (p:=⟨W.heap.size+1,3,none⟩) (Nat.le_succ _) (.int .i64 0)).setCell (p:=⟨W.heap.size+1,4,none⟩) (Nat.le_succ _) (.string ⟨#[]⟩)).setCell (p:=⟨W.heap.size+1,5,none⟩) (Nat.le_succ _) (.int .i64 0)).setCell (p:=⟨W.heap.size+1,6,none⟩) (Nat.le_succ _) (.bool false)).setCell (p:=⟨W.heap.size+1,7,none⟩) (Nat.le_succ _) (.int .i64 0)).setCell (p:=⟨W.heap.size+1,8,none⟩) (Nat.le_succ _) (.string ⟨#[]⟩)).setCell (p:=⟨W.heap.size+1,9,none⟩) (Nat.le_succ _) (.int .i64 0)).setCell (p:=⟨W.heap.size+1,10,none⟩) (Nat.le_succ _) (.slice none 0 0))
     go_wp2_with fail
     have m0:=Ab.out.c 0 _ rfl
     have m1:=Ab.out.c 1 _ rfl
     have m2:=Ab.out.c 2 _ rfl
     have m3:=Ab.out.c 3 _ rfl
     have m4:=Ab.out.c 4 _ rfl
     have m5:=Ab.out.c 5 _ rfl
     have m6:=Ab.out.c 6 _ rfl
     have m7:=Ab.out.c 7 _ rfl
     have m8:=Ab.out.c 8 _ rfl
     have m9:=Ab.out.c 9 _ rfl
     have Aj:=Ab.out.c 10 _ rfl
     refine bodyPost_ret (v:=.tuple #[.agg #[.int .i64 0,.slice none 0 0,.bool false,.int .i64 0,.string ⟨#[]⟩,.int .i64 0,.bool false,.int .i64 0,.string ⟨#[]⟩,.int .i64 0,.slice none 0 0],.int .i64 2]) (by simp[results,Tryz.results62,go_sem,m0,m1,m2,m3,m4,m5,m6,m7,m8,m9,Aj]) rfl ?_
     exact OpnP.bad HO.out rfl Ah.out
   | true=>
     have HO:=Hd (Au.out _ (Bk rfl))
     have Dh:=Hd (Cv.out _ _ _ _ HF.out)
     clear Bp Bk
     go_wp2_with fail
     (with_reducible refine Bg.out.mono ?_);rintro e w7 ⟨rfl,Ak⟩
     have Af:=HI.out.step Ak
     have j0:=Af.c 0 _ rfl
     have j1:=Af.c 1 _ rfl
     have j2:=Af.c 2 _ rfl
     have j3:=Af.c 3 _ rfl
     have j4:=Af.c 4 _ rfl
     have j5:=Af.c 5 _ rfl
     have j6:=Af.c 6 _ rfl
     have j7:=Af.c 7 _ rfl
     have j8:=Af.c 8 _ rfl
     have j9:=Af.c 9 _ rfl
     have Dr:=Af.c 10 _ rfl
     have Dt:=Hd Ak
     have Ae:=Hd (Be.out _ (Aa0 As.out Ak))
     have Ca:=Hd (Bc.out _ (Aa0 As.out Ak))
     have Cg:=Hd (OwnK.lower (OwnK.below Ct.out Ak) Bf.out)
     have Cb:=Hd (OwnV.lower (OwnV.below Dc.out Ak) Bf.out)
     clear Af Ak i0 i1 i2 i3 i4 i5 i6 i7 i8 i9
     have r0:=Ae.out.c 0 _ rfl
     have r1:=Ae.out.c 1 _ rfl
     have r2:=Ae.out.c 2 _ rfl
     have r3:=Ae.out.c 3 _ rfl
     have r4:=Ae.out.c 4 _ rfl
     have r5:=Ae.out.c 5 _ rfl
     have r6:=Ae.out.c 6 _ rfl
     have r7:=Ae.out.c 7 _ rfl
     have r8:=Ae.out.c 8 _ rfl
     have r9:=Ae.out.c 9 _ rfl
     have Bt:=Ae.out.c 10 _ rfl
     have f0:=Ae.out.fr 0 (show 0<11 by decide)
     have f1:=Ae.out.fr 1 (show 1<11 by decide)
     have f2:=Ae.out.fr 2 (show 2<11 by decide)
     have f3:=Ae.out.fr 3 (show 3<11 by decide)
     have f4:=Ae.out.fr 4 (show 4<11 by decide)
     have f5:=Ae.out.fr 5 (show 5<11 by decide)
     have f6:=Ae.out.fr 6 (show 6<11 by decide)
     have f7:=Ae.out.fr 7 (show 7<11 by decide)
     have f8:=Ae.out.fr 8 (show 8<11 by decide)
     have f9:=Ae.out.fr 9 (show 9<11 by decide)
     have Bh:=Ae.out.fr 10 (show 10<11 by decide)
     have Ab:=Hd (((((((((((Ae.out.set (k:=0) (show 0<11 by decide) (.int .i64 (Ad:Nat))).set (k:=1) (show 1<11 by decide) (.slice zA zn zc)).set (k:=2) (show 2<11 by decide) (.bool lb)).set (k:=3) (show 3<11 by decide) (.int .i64 ln)).set (k:=4) (show 4<11 by decide) (.string lt)).set (k:=5) (show 5<11 by decide) (.int .i64 (Ap:Nat))).set (k:=6) (show 6<11 by decide) (.bool qb)).set (k:=7) (show 7<11 by decide) (.int .i64 qn)).set (k:=8) (show 8<11 by decide) (.string qt)).set (k:=9) (show 9<11 by decide) (.int .i64 (Aq:Nat))).set (k:=10) (show 10<11 by decide) (.slice cA cn Ac))
     have Ah:=Hd (((((((((((Ca.out.setCell (p:=⟨W.heap.size+1,0,none⟩) (Nat.le_succ _) (.int .i64 (Ad:Nat))).setCell (p:=⟨W.heap.size+1,1,none⟩) (Nat.le_succ _) (.slice zA zn zc)).setCell (p:=⟨W.heap.size+1,2,none⟩) (Nat.le_succ _) (.bool lb)).setCell (p:=⟨W.heap.size+1,3,none⟩) (Nat.le_succ _) (.int .i64 ln)).setCell (p:=⟨W.heap.size+1,4,none⟩) (Nat.le_succ _) (.string lt)).setCell (p:=⟨W.heap.size+1,5,none⟩) (Nat.le_succ _) (.int .i64 (Ap:Nat))).setCell (p:=⟨W.heap.size+1,6,none⟩) (Nat.le_succ _) (.bool qb)).setCell (p:=⟨W.heap.size+1,7,none⟩) (Nat.le_succ _) (.int .i64 qn)).setCell (p:=⟨W.heap.size+1,8,none⟩) (Nat.le_succ _) (.string qt)).setCell (p:=⟨W.heap.size+1,9,none⟩) (Nat.le_succ _) (.int .i64 (Aq:Nat))).setCell (p:=⟨W.heap.size+1,10,none⟩) (Nat.le_succ _) (.slice cA cn Ac))
     go_wp2_with fail
     have m0:=Ab.out.c 0 _ rfl
     have m1:=Ab.out.c 1 _ rfl
     have m2:=Ab.out.c 2 _ rfl
     have m3:=Ab.out.c 3 _ rfl
     have m4:=Ab.out.c 4 _ rfl
     have m5:=Ab.out.c 5 _ rfl
     have m6:=Ab.out.c 6 _ rfl
     have m7:=Ab.out.c 7 _ rfl
     have m8:=Ab.out.c 8 _ rfl
     have m9:=Ab.out.c 9 _ rfl
     have Aj:=Ab.out.c 10 _ rfl
     refine bodyPost_ret (v:=.tuple #[.agg #[.int .i64 (Ad:Nat),.slice zA zn zc,.bool lb,.int .i64 ln,.string lt,.int .i64 (Ap:Nat),.bool qb,.int .i64 qn,.string qt,.int .i64 (Aq:Nat),.slice cA cn Ac],.int .i64 0]) (by simp[results,Tryz.results62,go_sem,m0,m1,m2,m3,m4,m5,m6,m7,m8,m9,Aj]) rfl ?_
     refine⟨.slice zA zn zc,.slice cA cn Ac,by rw[HO.out];rfl,?_,?_,Ah.out⟩
     ·rw[HO.out]
      exact OwnK.lower (ownsRow_setCell_below (ownsRow_setCell_below (ownsRow_setCell_below (ownsRow_setCell_below (ownsRow_setCell_below (ownsRow_setCell_below (ownsRow_setCell_below (ownsRow_setCell_below (ownsRow_setCell_below (ownsRow_setCell_below (ownsRow_setCell_below (Cg.out) (a:=⟨W.heap.size+1,0,none⟩) (Nat.lt_succ_self _) (.int .i64 (Ad:Nat))) (a:=⟨W.heap.size+1,1,none⟩) (Nat.lt_succ_self _) (.slice zA zn zc)) (a:=⟨W.heap.size+1,2,none⟩) (Nat.lt_succ_self _) (.bool lb)) (a:=⟨W.heap.size+1,3,none⟩) (Nat.lt_succ_self _) (.int .i64 ln)) (a:=⟨W.heap.size+1,4,none⟩) (Nat.lt_succ_self _) (.string lt)) (a:=⟨W.heap.size+1,5,none⟩) (Nat.lt_succ_self _) (.int .i64 (Ap:Nat))) (a:=⟨W.heap.size+1,6,none⟩) (Nat.lt_succ_self _) (.bool qb)) (a:=⟨W.heap.size+1,7,none⟩) (Nat.lt_succ_self _) (.int .i64 qn)) (a:=⟨W.heap.size+1,8,none⟩) (Nat.lt_succ_self _) (.string qt)) (a:=⟨W.heap.size+1,9,none⟩) (Nat.lt_succ_self _) (.int .i64 (Aq:Nat))) (a:=⟨W.heap.size+1,10,none⟩) (Nat.lt_succ_self _) (.slice cA cn Ac)) (show W.heap.size<=W.heap.size+2 by omega)
     ·rw[HO.out]
      have e:=Cz.out ⟨⟨Ad,Cf,⟨lb,ln,lt⟩,Ap,⟨qb,qn,qt⟩,Aq⟩,ks⟩ (by rw[Dh.out.sum,Cu.out])
      simp only at e⊢
      rw[←e]
      exact OwnV.lower (ownsRow_setCell_below (ownsRow_setCell_below (ownsRow_setCell_below (ownsRow_setCell_below (ownsRow_setCell_below (ownsRow_setCell_below (ownsRow_setCell_below (ownsRow_setCell_below (ownsRow_setCell_below (ownsRow_setCell_below (ownsRow_setCell_below (Cb.out) (a:=⟨W.heap.size+1,0,none⟩) (Nat.lt_succ_self _) (.int .i64 (Ad:Nat))) (a:=⟨W.heap.size+1,1,none⟩) (Nat.lt_succ_self _) (.slice zA zn zc)) (a:=⟨W.heap.size+1,2,none⟩) (Nat.lt_succ_self _) (.bool lb)) (a:=⟨W.heap.size+1,3,none⟩) (Nat.lt_succ_self _) (.int .i64 ln)) (a:=⟨W.heap.size+1,4,none⟩) (Nat.lt_succ_self _) (.string lt)) (a:=⟨W.heap.size+1,5,none⟩) (Nat.lt_succ_self _) (.int .i64 (Ap:Nat))) (a:=⟨W.heap.size+1,6,none⟩) (Nat.lt_succ_self _) (.bool qb)) (a:=⟨W.heap.size+1,7,none⟩) (Nat.lt_succ_self _) (.int .i64 qn)) (a:=⟨W.heap.size+1,8,none⟩) (Nat.lt_succ_self _) (.string qt)) (a:=⟨W.heap.size+1,9,none⟩) (Nat.lt_succ_self _) (.int .i64 (Aq:Nat))) (a:=⟨W.heap.size+1,10,none⟩) (Nat.lt_succ_self _) (.slice cA cn Ac)) (show W.heap.size<=W.heap.size+2 by omega)
theorem Dq9(cs:List Col)(v:Value)(key:Int)(file:ByteArray)(W:World)(hr:RdC W W.heap.size v cs)(hs:file.size<=140737488351232):
   Calls Tryz.prog 26 #[.agg #[v,.int .i64 key],.string file] W (InfoP cs key file W):=by
 have HO:=fun w(h:Below W.heap.size W w)=>Hd (Bi7 cs v key file w (hr.step h) hs)
 have HV:=Hd (Var2.new W v (.int .i64 key) 24)
 have An:=Hd ((Q2 W.heap.size W).alloc (Q1 _) (.cells #[v,.int .i64 key] 24))
 have Aj:(W.alloc (.cells #[v,.int .i64 key] 24)).heap.size=W.heap.size+1:=by simp
 obtain⟨W1,Ax⟩:∃W1,W.alloc (.cells #[v,.int .i64 key] 24)=W1:=⟨_,rfl⟩
 rw[Ax] at HV An Aj
 have HQ:=VarC.new W1 [.int .i64 0,.slice none 0 0,.bool false,.int .i64 0,.string ⟨#[]⟩,.int .i64 0,.bool false,.int .i64 0,.string ⟨#[]⟩,.int .i64 0] 53
 have Ah:=(Q2 W1.heap.size W1).alloc (Q1 _) (.cells #[.int .i64 0,.slice none 0 0,.bool false,.int .i64 0,.string ⟨#[]⟩,.int .i64 0,.bool false,.int .i64 0,.string ⟨#[]⟩,.int .i64 0] 53)
 have Al:(W1.alloc (.cells #[.int .i64 0,.slice none 0 0,.bool false,.int .i64 0,.string ⟨#[]⟩,.int .i64 0,.bool false,.int .i64 0,.string ⟨#[]⟩,.int .i64 0] 53)).heap.size=W.heap.size+2:=by simp[Aj]
 change VarC (W1.alloc (.cells #[.int .i64 0,.slice none 0 0,.bool false,.int .i64 0,.string ⟨#[]⟩,.int .i64 0,.bool false,.int .i64 0,.string ⟨#[]⟩,.int .i64 0] 53)) _ _ at HQ
 obtain⟨W2,Ay⟩:∃W2,W1.alloc (.cells #[.int .i64 0,.slice none 0 0,.bool false,.int .i64 0,.string ⟨#[]⟩,.int .i64 0,.bool false,.int .i64 0,.string ⟨#[]⟩,.int .i64 0] 53)=W2:=⟨_,rfl⟩
 rw[Ay] at HQ Ah Al
 rw[Aj] at HQ
 have Aq:=Hd HQ
 have Ag:=Hd (Aa0 An.out Ah)
 obtain⟨v0,v1,-,-⟩:=HV.out.below Ah (by omega)
 clear HQ Ah
 unfold OpnP at HO
 unfold InfoP
 generalize (opn cs key file).1=E at *
 generalize (opn cs key file).2=O at *
 generalize hF:O.inf=F at *
 obtain⟨Ab,Ap,⟨lb,ln,lt⟩,Ad,⟨qb,qn,qt⟩,Ae⟩:=F
 have As:=Hd (HO _ Ag.out).out
 clear HO hs hr
 go_enter Tryz.func26,Tryz.ntmps26
 go_wp2_with fail
 (with_reducible refine As.out.mono ?_)
 rintro e w2 ⟨zv,cv,rfl,hz,Ak,Ai⟩
 obtain⟨zA,zc,zn,rfl,-,-,-⟩:=(OwnK.read hz).bds
 obtain⟨cA,Ao,cn,rfl,-,-,-⟩:=(OwnV.read Ak).bds
 have hI:=VarC.new w2 (Bp5 (.slice zA zn zc) (.slice cA cn Ao) ⟨Ab,Ap,⟨lb,ln,lt⟩,Ad,⟨qb,qn,qt⟩,Ae⟩) 87
 have Af:=(Q2 w2.heap.size w2).alloc (Q1 _) (.cells (Bp5 (.slice zA zn zc) (.slice cA cn Ao) ⟨Ab,Ap,⟨lb,ln,lt⟩,Ad,⟨qb,qn,qt⟩,Ae⟩).toArray 87)
 unfold Bp5 at hI Af
 unfold Dy6
 simp only at hI Af hz⊢
 have HZ:=Hd (OwnK.below hz Af)
 have Ar:=Hd (Aa0 Ag.out (Aa0 Ai Af))
 have Aa:=Hd (Aq.out.step (Aa0 Ai Af))
 have i0:=hI.c 0 _ rfl
 have i1:=hI.c 1 _ rfl
 have i2:=hI.c 2 _ rfl
 have i3:=hI.c 3 _ rfl
 have i4:=hI.c 4 _ rfl
 have i5:=hI.c 5 _ rfl
 have i6:=hI.c 6 _ rfl
 have i7:=hI.c 7 _ rfl
 have i8:=hI.c 8 _ rfl
 have i9:=hI.c 9 _ rfl
 rw[Al] at HZ
 have Aw:=Hd (OwnK.read (ownsRow_setCell_below (ownsRow_setCell_below (ownsRow_setCell_below (ownsRow_setCell_below (ownsRow_setCell_below (ownsRow_setCell_below (ownsRow_setCell_below (ownsRow_setCell_below (ownsRow_setCell_below (ownsRow_setCell_below (HZ.out) (a:=⟨W.heap.size+1,0,none⟩) (Nat.lt_succ_self _) (.int .i64 (Ab:Nat))) (a:=⟨W.heap.size+1,1,none⟩) (Nat.lt_succ_self _) (.slice zA zn zc)) (a:=⟨W.heap.size+1,2,none⟩) (Nat.lt_succ_self _) (.bool lb)) (a:=⟨W.heap.size+1,3,none⟩) (Nat.lt_succ_self _) (.int .i64 ln)) (a:=⟨W.heap.size+1,4,none⟩) (Nat.lt_succ_self _) (.string lt)) (a:=⟨W.heap.size+1,5,none⟩) (Nat.lt_succ_self _) (.int .i64 (Ad:Nat))) (a:=⟨W.heap.size+1,6,none⟩) (Nat.lt_succ_self _) (.bool qb)) (a:=⟨W.heap.size+1,7,none⟩) (Nat.lt_succ_self _) (.int .i64 qn)) (a:=⟨W.heap.size+1,8,none⟩) (Nat.lt_succ_self _) (.string qt)) (a:=⟨W.heap.size+1,9,none⟩) (Nat.lt_succ_self _) (.int .i64 (Ae:Nat))))
 clear hI Af hz Ai Ak
 have r0:=Aa.out.c 0 _ rfl
 have r1:=Aa.out.c 1 _ rfl
 have r2:=Aa.out.c 2 _ rfl
 have r3:=Aa.out.c 3 _ rfl
 have r4:=Aa.out.c 4 _ rfl
 have r5:=Aa.out.c 5 _ rfl
 have r6:=Aa.out.c 6 _ rfl
 have r7:=Aa.out.c 7 _ rfl
 have r8:=Aa.out.c 8 _ rfl
 have r9:=Aa.out.c 9 _ rfl
 have f0:=Aa.out.fr 0 (show 0<10 by decide)
 have f1:=Aa.out.fr 1 (show 1<10 by decide)
 have f2:=Aa.out.fr 2 (show 2<10 by decide)
 have f3:=Aa.out.fr 3 (show 3<10 by decide)
 have f4:=Aa.out.fr 4 (show 4<10 by decide)
 have f5:=Aa.out.fr 5 (show 5<10 by decide)
 have f6:=Aa.out.fr 6 (show 6<10 by decide)
 have f7:=Aa.out.fr 7 (show 7<10 by decide)
 have f8:=Aa.out.fr 8 (show 8<10 by decide)
 have f9:=Aa.out.fr 9 (show 9<10 by decide)
 have Ac:=Hd ((((((((((Aa.out.set (k:=0) (show 0<10 by decide) (.int .i64 (Ab:Nat))).set (k:=1) (show 1<10 by decide) (.slice zA zn zc)).set (k:=2) (show 2<10 by decide) (.bool lb)).set (k:=3) (show 3<10 by decide) (.int .i64 ln)).set (k:=4) (show 4<10 by decide) (.string lt)).set (k:=5) (show 5<10 by decide) (.int .i64 (Ad:Nat))).set (k:=6) (show 6<10 by decide) (.bool qb)).set (k:=7) (show 7<10 by decide) (.int .i64 qn)).set (k:=8) (show 8<10 by decide) (.string qt)).set (k:=9) (show 9<10 by decide) (.int .i64 (Ae:Nat)))
 have Au:=Hd ((((((((((Ar.out.setCell (p:=⟨W.heap.size+1,0,none⟩) (Nat.le_succ _) (.int .i64 (Ab:Nat))).setCell (p:=⟨W.heap.size+1,1,none⟩) (Nat.le_succ _) (.slice zA zn zc)).setCell (p:=⟨W.heap.size+1,2,none⟩) (Nat.le_succ _) (.bool lb)).setCell (p:=⟨W.heap.size+1,3,none⟩) (Nat.le_succ _) (.int .i64 ln)).setCell (p:=⟨W.heap.size+1,4,none⟩) (Nat.le_succ _) (.string lt)).setCell (p:=⟨W.heap.size+1,5,none⟩) (Nat.le_succ _) (.int .i64 (Ad:Nat))).setCell (p:=⟨W.heap.size+1,6,none⟩) (Nat.le_succ _) (.bool qb)).setCell (p:=⟨W.heap.size+1,7,none⟩) (Nat.le_succ _) (.int .i64 qn)).setCell (p:=⟨W.heap.size+1,8,none⟩) (Nat.le_succ _) (.string qt)).setCell (p:=⟨W.heap.size+1,9,none⟩) (Nat.le_succ _) (.int .i64 (Ae:Nat)))
 go_wp2_with fail
 have m0:=Ac.out.c 0 _ rfl
 have m1:=Ac.out.c 1 _ rfl
 have m2:=Ac.out.c 2 _ rfl
 have m3:=Ac.out.c 3 _ rfl
 have m4:=Ac.out.c 4 _ rfl
 have m5:=Ac.out.c 5 _ rfl
 have m6:=Ac.out.c 6 _ rfl
 have m7:=Ac.out.c 7 _ rfl
 have m8:=Ac.out.c 8 _ rfl
 have m9:=Ac.out.c 9 _ rfl
 refine bodyPost_ret (v:=.tuple #[.agg #[.int .i64 (Ab:Nat),.slice zA zn zc,.bool lb,.int .i64 ln,.string lt,.int .i64 (Ad:Nat),.bool qb,.int .i64 qn,.string qt,.int .i64 (Ae:Nat)],.int .i64 (E:Nat)]) (by simp[results,Tryz.results26,go_sem,m0,m1,m2,m3,m4,m5,m6,m7,m8,m9]) rfl ?_
 exact⟨.slice zA zn zc,rfl,Aw.out,Au.out⟩
end Go.P

namespace Go.MP
open RowKit VB VarM VS VL SC CK Go.ST MK RS ZN
def ConAt(w:World)(b:Nat)(zv cv:Value)(f:Inf):Prop:=
 (w.cell? ⟨b,0,none⟩=some (.int .i64 (f.rows:Nat))/\w.cell? ⟨b,1,none⟩=some zv/\w.cell? ⟨b,2,none⟩=some (.bool f.lo.nu)/\w.cell? ⟨b,3,none⟩=some (.int .i64 f.lo.n)/\w.cell? ⟨b,4,none⟩=some (.string f.lo.s)/\w.cell? ⟨b,5,none⟩=some (.int .i64 (f.lq:Nat))) /\
 (w.cell? ⟨b,6,none⟩=some (.bool f.hi.nu)/\w.cell? ⟨b,7,none⟩=some (.int .i64 f.hi.n)/\w.cell? ⟨b,8,none⟩=some (.string f.hi.s)/\w.cell? ⟨b,9,none⟩=some (.int .i64 (f.hq:Nat))/\w.cell? ⟨b,10,none⟩=some cv)
theorem Cv7{w:World}{b:Nat}{zv cv:Value}{f:Inf}(h:VarC w b (Bp5 zv cv f)):ConAt w b zv cv f:=
 ⟨⟨h.c 0 _ rfl,h.c 1 _ rfl,h.c 2 _ rfl,h.c 3 _ rfl,h.c 4 _ rfl,h.c 5 _ rfl⟩,h.c 6 _ rfl,h.c 7 _ rfl,h.c 8 _ rfl,h.c 9 _ rfl,h.c 10 _ rfl⟩
end Go.MP
namespace Go.P
open RowKit VB VarM BP VS VL SC CK Go.ST MK RS ZN MP
theorem Cv6(cs:List Col)(v:Value)(key:Int)(zv cv:Value)(file:ByteArray)(o:Opn)(i:Nat)(W:World)(hr:RdC W W.heap.size v cs)(Ad:RdV Value.string W W.heap.size cv (chL file o))(hi:i<o.ks.length)(hs:file.size<=140737488351232):
   Calls Tryz.prog 63 #[.agg #[v,.int .i64 key],Dy6 zv cv o.inf,.int .i64 (i:Int)] W (RetVlE 49 (At8 cs file o i).1 (At8 cs file o i).2 W):=by
 obtain⟨W0,Au⟩:∃W0,W0=W:=⟨_,rfl⟩
 rw[←Au] at hr Ad⊢
 clear Au
 have hV:=Var2.new W0 v (.int .i64 key) 24
 have Ak:=(Q2 W0.heap.size W0).alloc (Q1 _) (.cells #[v,.int .i64 key] 24)
 have Ai:(W0.alloc (.cells #[v,.int .i64 key] 24)).heap.size=W0.heap.size+1:=by simp
 obtain⟨W1,As⟩:∃W1,W0.alloc (.cells #[v,.int .i64 key] 24)=W1:=⟨_,rfl⟩
 rw[As] at hV Ak Ai
 have hI:=VarC.new W1 (Bp5 zv cv o.inf) 87
 have Ab:=(Q2 W1.heap.size W1).alloc (Q1 _) (.cells (Bp5 zv cv o.inf).toArray 87)
 have Ae:(W1.alloc (.cells (Bp5 zv cv o.inf).toArray 87)).heap.size=W0.heap.size+2:=by simp[Ai]
 have D1:=@En7 cs file o i
 have D2:=@En6 cs file o i
 have D3:=@Cv4 cs file o i
 have Af:=chL_at (file:=file) hi
 have Bb:(Bd2 file o i).size<=140737488351232:=by unfold Bd2;rw[ByteArray.size_extract];omega
 generalize Bd2 file o i=CH at *
 generalize chL file o=CL at *
 generalize At8 cs file o i=DD at *
 obtain⟨⟨Aa,Bs,⟨lb,ln,lt⟩,Ao,⟨qb,qn,qt⟩,Ap⟩,ks⟩:=o
 unfold Dy6
 unfold Bp5 at hI Ab Ae
 simp only at hI Ab Ae D1 D2 D3 hi⊢
 obtain⟨W2,Aw⟩:∃W2,W1.alloc (.cells #[.int .i64 (Aa:Nat),zv,.bool lb,.int .i64 ln,.string lt,.int .i64 (Ao:Nat),.bool qb,.int .i64 qn,.string qt,.int .i64 (Ap:Nat),cv] 87)=W2:=⟨_,rfl⟩
 change VarC (W1.alloc (.cells #[.int .i64 (Aa:Nat),zv,.bool lb,.int .i64 ln,.string lt,.int .i64 (Ao:Nat),.bool qb,.int .i64 qn,.string qt,.int .i64 (Ap:Nat),cv] 87)) _ _ at hI
 rw[Aw] at hI Ab Ae
 have Ar:=Ak.trans (Ab.mono (by omega))
 have Ay:=hV.below Ab (by omega)
 obtain⟨A,cc,rfl,Bl,Bj,-⟩:=id hr
 obtain⟨Bq,Bm,Ag,rfl,Aj,-,-⟩:=Ad.bds
 obtain⟨ad,Bh,Bd,-⟩:=Ad.at Af
 subst Bh
 have Ac:=Hd (fun(w:World)(h:Below W2.heap.size W2 w)=>show(w.cell? ⟨W0.heap.size,0,none⟩=some (.slice A cs.length cc)/\w.cell? ⟨W0.heap.size,1,none⟩=some (.int .i64 key))/\(w.cell? ⟨W1.heap.size,0,none⟩=some (.int .i64 (Aa:Nat))/\w.cell? ⟨W1.heap.size,10,none⟩=some (.slice (some ad) Ag Bm))/\w.cell? (ad.add i)=some (.string CH)/\RdC w w.heap.size (.slice A cs.length cc) cs/\Below W0.heap.size W0 w from by
  obtain⟨v0,v1,-,-⟩:=Ay.step h
  have Ax:=hI.step h
  have hb:=Ar.trans (h.mono (by omega))
  refine⟨⟨v0,v1⟩,⟨Ax.c 0 _ rfl,Ax.c 10 _ rfl⟩,?_,hr.step hb,hb⟩
  obtain⟨Br,h1,h2,h3⟩:=(Ad.below hb).at Af
  cases h1
  exact h3)
 rw[Ai] at Ac
 have Bk:i<CL.length:=(List.getElem?_eq_some_iff.1 Af).1
 have Bi:=Hd (fun(w:World)(h:Below W2.heap.size W2 w)=>Dz0 cs (.slice A cs.length cc) key i w (Ac.out w h).2.2.2.1)
 generalize Ak2 cs i=T at *
 obtain⟨tn,tt,ts,tu⟩:=T
 have Ah:=Hd (fun(w:World)=>show Calls Tryz.prog 107 #[(⟨tn,tt,ts,tu⟩:Col).val,.string CH] w (RetVlE 49 (At7 tt tu CH).1 (At7 tt tu CH).2 w) from Ck4 tn tt ts tu CH w Bb)
 simp only at D1 D2 D3 Ah
 generalize At7 tt tu CH=DC at *
 obtain⟨dl,de⟩:=DC
 simp only at D1 D2 D3 Ah
 have Be:=Hd D1;have HD2:=Hd D2;have HD3:=Hd D3
 have Bo:=Hd As;have HW2:=Hd Aw;have HH2:=Hd Ae
 have Bn:(i:Int)<(Ag:Int):=by omega
 have Bc:i<Ag:=by omega
 obtain⟨⟨v0,v1⟩,⟨i0,Bg⟩,k0,-,-⟩:=Ac.out W2 (Q2 _ _)
 clear hV Ak hI Ab Ar Ay hr Ad hi hs D1 D2 D3 Bd Bl Bj Bb Af Aj Bk
 go_enter Tryz.func63,Tryz.ntmps63
 go_wp2_with fail
 go_region_with(first
  | (go_at_call 82;(with_reducible refine(Bi.out _ (by go_grown)).mono ?_);rintro e w6 ⟨rfl,Bf⟩;have HB6:=Hd (show Below W2.heap.size W2 w6 from Aa0 (by go_grown) Bf);obtain⟨⟨v0,v1⟩,⟨i0,Bg⟩,k0,-,-⟩:=Ac.out w6 HB6.out)
  | (go_at_call 107;(with_reducible refine(Ah.out _).mono ?_);rintro e w7 ⟨u,rfl,ho,An⟩;have HB7:=Hd (show Below W2.heap.size W2 w7 from Aa0 HB6.out (Aa0 (by go_grown) An))))
 all_goals
  have HO:=Hd (ho.lower (b':=W0.heap.size) (Below.size (Ac.out _ HB6.out).2.2.2.2))
  obtain⟨-,⟨j0,-⟩,-,-,Aq⟩:=Ac.out w7 HB7.out
  obtain⟨uA,uc,un,rfl,Az,-,-⟩:=ho.read.bds
  have Al:=Hd Aq
  have Ba:=Hd Az
  clear ho Az Aq An
  by_cases he:de=0
  case neg=>
   have hd:((de:Int)!=0)=true:=Ab5 (by omega)
   have HE:=Hd (Be.out he)
   clear he
   go_wp2_with fail
   go_ret2
   exact⟨.slice none 0 0,by rw[HE.out]<;>rfl,by rw[HE.out];exact OwnL.nil _ _ _,Al.out⟩
  subst he
  by_cases hl:un=Aa
  case neg=>
   have hd:((un:Int)!=(Aa:Int))=true:=Ab5 (by omega)
   have HE:=Hd (HD2.out rfl (by rw[←Ba.out];exact hl))
   clear hl
   go_wp2_with fail
   go_ret2
   exact RetVlE.mk (by rw[HE.out];rfl) (by rw[HE.out];exact OwnL.nil _ _ _) Al.out
  have HE:=Hd (HD3.out rfl (by rw[←Ba.out];exact hl))
  subst hl
  have hd:((un:Int)!=(un:Int))=false:=by simp
  have Bp:(un !=un)=false:=by simp
  go_wp2_with fail
  go_ret2
  exact RetVlE.mk (by rw[HE.out];rfl) (by rw[HE.out];exact HO.out) Al.out
theorem Ch5(cs:List Col)(v:Value)(key:Int)(file:ByteArray)(z:Int)(W:World)(hr:RdC W W.heap.size v cs)(hs:file.size<=140737488351232):
   Calls Tryz.prog 31 #[.agg #[v,.int .i64 key],.string file,.int .i64 z] W (RetVlE 49 (Dg5 cs key file z).1 (Dg5 cs key file z).2 W):=by
 have hV:=Var2.new W v (.int .i64 key) 24
 have Ae:=(Q2 W.heap.size W).alloc (Q1 _) (.cells #[v,.int .i64 key] 24)
 have Ba:(W.alloc (.cells #[v,.int .i64 key] 24)).heap.size=W.heap.size+1:=by simp
 obtain⟨W1,Ap⟩:∃W1,W.alloc (.cells #[v,.int .i64 key] 24)=W1:=⟨_,rfl⟩
 rw[Ap] at hV Ae Ba
 have Ar:=Hd (Bi7 cs v key file W1 (hr.step Ae) hs)
 have Ay:=Hd (fun(w:World)(h:Below W1.heap.size W1 w)(zv cv:Value)(i:Nat)(hc:RdV Value.string w w.heap.size cv (chL file (opn cs key file).2))(hi:i<(opn cs key file).2.ks.length)=>Cv6 cs v key zv cv file (opn cs key file).2 i w ((hr.step Ae).step h) hc hi hs)
 have HV:=Hd (fun(w:World)(h:Below W1.heap.size W1 w)=>hV.below h (by omega))
 have Bc:=Hd Ae
 have CE:=@Eo4 cs key file z
 have CO:=@Eo3 cs key file z
 have CI:=fun i=>@Ck1 cs key file i
 have FO:=@Bi3 cs key file
 have CL:=Dz8 file (opn cs key file).2
 unfold OpnP at Ar
 obtain⟨v0,v1,-,-⟩:=hV
 generalize Ax:opn cs key file=OP at *
 obtain⟨E,O⟩:=OP
 simp only at *
 have FL:=Hd (fun h=>(FO h).2.2.1.kl)
 generalize chL file O=CH at *
 have Bd:=Hd CE;have HCO:=Hd CO;have HCI:=Hd CI;have HCL:=Hd CL;have HW1:=Hd Ap
 clear hr hs Ae CE CO CI FO CL Ax
 go_enter Tryz.func31,Tryz.ntmps31
 go_wp2_with fail
 (with_reducible refine Ar.out.mono ?_);rintro e w2 ⟨zv,cv,rfl,hz,Ad,Ag⟩
 replace hz:=OwnK.read hz
 replace Ad:=OwnV.read Ad
 obtain⟨zA,zc,zn,rfl,-,-,-⟩:=hz.bds
 obtain⟨cA,cc,n,rfl,An,-,-⟩:=Ad.bds
 have As:=Hd An
 clear An
 have hI:=VarC.new w2 (Bp5 (.slice zA zn zc) (.slice cA n cc) O.inf) 87
 have Ab:=(Q2 w2.heap.size w2).alloc (Q1 _) (.cells (Bp5 (.slice zA zn zc) (.slice cA n cc) O.inf).toArray 87)
 have HF:=Hd (fun(w:World)(h:Below W1.heap.size W1 w)(i:Nat)(hc:RdV Value.string w w.heap.size (.slice cA n cc) CH)(hi:i<O.ks.length)=>Ay.out w h (.slice zA zn zc) (.slice cA n cc) i hc hi)
 obtain⟨Be,ks⟩:=O
 obtain⟨Aa,Bf,⟨lb,ln,lt⟩,Ai,⟨qb,qn,qt⟩,Aj⟩:=Be
 unfold Bp5 at hI Ab
 unfold Dy6 at HF
 unfold Dy6
 simp only at hI Ab HF HCL FL HCI⊢
 obtain⟨W6,Bh⟩:∃W6,w2.alloc (.cells #[.int .i64 (Aa:Nat),.slice zA zn zc,.bool lb,.int .i64 ln,.string lt,.int .i64 (Ai:Nat),.bool qb,.int .i64 qn,.string qt,.int .i64 (Aj:Nat),.slice cA n cc] 87)=W6:=⟨_,rfl⟩
 change VarC (w2.alloc (.cells #[.int .i64 (Aa:Nat),.slice zA zn zc,.bool lb,.int .i64 ln,.string lt,.int .i64 (Ai:Nat),.bool qb,.int .i64 qn,.string qt,.int .i64 (Aj:Nat),.slice cA n cc] 87)) _ _ at hI
 rw[Bh] at hI Ab
 have Ak:=Hd (Aa0 Ag Ab)
 have Af:=Hd (Aa0 Bc.out Ak.out)
 have Ac:=Ad.step Ab
 obtain⟨v0,v1,-,-⟩:=HV.out W6 Ak.out
 by_cases he:E=0
 case neg=>
  have hd:((E:Int)!=0)=true:=Ab5 (by omega)
  have HC:=Hd (Bd.out he)
  clear he hI Ab Ag hz Ad Ac
  go_wp2_with fail
  go_ret2
  exact⟨.slice none 0 0,by rw[HC.out]<;>rfl,by rw[HC.out];exact OwnL.nil _ _ _,Af.out⟩
 subst he
 have Ao:=FL.out rfl
 have Ah:=Hd (show n=cs.length+1 by rw[As.out,HCL.out,Ao])
 clear Ao
 have Bb:=Hd Ac
 obtain⟨⟨i0,i1,i2,i3,i4,i5⟩,i6,i7,i8,i9,Bi⟩:=Cv7 (f:=⟨Aa,Bf,⟨lb,ln,lt⟩,Ai,⟨qb,qn,qt⟩,Aj⟩) hI
 clear hI Ab Ag hz Ad Ac
 by_cases h1:z<0
 ·have Aq:decide (z<0)=true:=Q4 h1
  have HC:=Hd (HCO.out rfl (.inl h1))
  clear h1
  go_wp2_with fail
  go_ret2
  exact RetVlE.mk (by rw[HC.out];rfl) (by rw[HC.out];exact OwnL.nil _ _ _) Af.out
 have Aq:decide (z<0)=false:=Q3 h1
 by_cases h2:(n:Int)<=z
 ·have Az:decide ((n:Int)<=z)=true:=Q4 h2
  have HC:=Hd (HCO.out rfl (.inr (by have:=Ah.out;omega)))
  clear h1 h2
  go_wp2_with fail
  go_ret2
  exact RetVlE.mk (by rw[HC.out];rfl) (by rw[HC.out];exact OwnL.nil _ _ _) Af.out
 have Az:decide ((n:Int)<=z)=false:=Q3 h2
 obtain⟨i,rfl⟩:∃i:Nat,z=i:=⟨z.toNat,by omega⟩
 have Aw:decide ((i:Int)<0)=false:=Aq
 have Au:decide (n<=i)=false:=Q3 (by omega)
 have HC:=Hd (HCI.out i rfl (by have:=Ah.out;omega))
 have HG:=Hd (HF.out W6 Ak.out i Bb.out (by have:=Ah.out;have:=FL.out rfl;omega))
 clear h1 h2
 go_wp2_with fail
 (with_reducible refine HG.out.mono ?_);rintro e w7 ⟨u,rfl,ho,Al⟩
 have HO:=Hd (ho.lower (b':=W.heap.size) Af.out.size)
 have Bg:=Hd (Aa0 Af.out Al)
 clear ho Al
 go_wp2_with fail
 go_ret2
 exact⟨u,by rw[HC.out]<;>rfl,by rw[HC.out];exact HO.out,Bg.out⟩
end Go.P
